/-
  Where a key's bits ahead of one lead.
-/
import Derived.Test.YtkhjnfplcaffnaaDg
import Derived.Test.YtkhjnfplcaffnaaRnd
set_option linter.unusedVariables false
set_option linter.unusedSimpArgs false
set_option maxRecDepth 100000
namespace Go.Proofs.Ytkhjnfplcaffnaa
open Go.RowKit Go.Shelf
attribute [local go_sem] Oper.semAt_some
attribute [local go_sem ↓] Go.wp_at_zero Go.wp_at_succ ld_k lv_k st_k eq_k ne_k bd_k ld_b lv_b st_b eq_b ne_b bd_25 ld_r lv_r st_rk eq_rk ne_rk bd_r ld_p lv_p st_px bd_p Nm.ld_a Nm.ld_n Nm.st_a Nm.st_n Nm.eq_a Nm.eq_n Nm.ne_a Nm.ne_n Nm.lv_a Nm.lv_n ld_a ld_n st_a st_n eq_a eq_n ne_a ne_n lv_a lv_n ld_l lv_l st_l bd_l bd_n bs_l bs_k
attribute [local go_sem] run_ldk run_lvk run_stk run_eqk run_nek run_bdk_z run_ldb run_lvb run_stb run_eqb run_neb run_ldr run_lvr run_strk run_eqrk run_nerk run_bdr_z run_ldp run_lvp run_stpx Nm.run_ld_a Nm.run_ld_n Nm.run_st_n Nm.run_eq_a Nm.run_eq_n Nm.run_ne_a Nm.run_ne_n Nm.run_lv_a Nm.run_lv_n Nm.rd_new Nm.rd_old Nm.rd_drew Nm.rd_drewN run_ld_a run_ld_n run_sw_a run_sw_n run_eq_a run_eq_n run_ne_a run_ne_n run_lv_a run_lv_n st_z ne_z eq_z rd_new rd_old rd_drew rd_drewN Shp.rd_new Shp.rd_old Shp.rd_drew Shp.rd_drewN Shp.rd_set Shp.tn_new Shp.tn_old Shp.tn_drew Shp.tn_drewN tn_new tn_old tn_drew tn_drewN rd_set setRow_alloc run_stn3 run_stt15 run_lvl run_ldl run_stl run_bdl run_bdn run_bdn0 run_bsl run_bsk Shp.rd_extk cell_ext
set_option maxHeartbeats 16000000 in
theorem place_any (g : Nat) (o : Option Tk) (k : D.Ky) (d : Nat) (hd : d ≤ 200) (w : World) (hT : TR w g o) : Calls Try.prog 35 #[.pointer (some ⟨g, 0, none⟩), .agg (kS.v k), .int .i64 (d : Nat)] w fun e w' => e = .returned (.pointer (some (plc k ⟨g, 0, none⟩ (pth k d o)))) ∧ Below w.heap.size w w' := by
  have CB := Lib.hid (fun w => kbytes_any k w)
  have CP := Lib.hid (fun w => passed_any (some ⟨g, 0, none⟩) k (d : Nat) w)
  have CS := Lib.hid (fun i (hi : i < 200) w => side_any k i hi w)
  obtain ⟨w0, hw0⟩ : ∃ w0, w.alloc (.cells (kS.v k) 30) = w0 := ⟨_, rfl⟩
  have f0 : kS.rd w0 ⟨w.heap.size, 0, none⟩ = some k := by rw [← hw0]; exact Shp.rd_new _ _ _ _ rfl
  have b0 : Below w.heap.size w w0 := by rw [← hw0]; exact below_alloc_ _ _
  have hT0 := hT.on b0
  have hz0 : w.heap.size < w0.heap.size := by rw [← hw0]; simp
  refine (callsIn_wide (n := 10)).1 ?_
  refine callsIn_of_wp_marks Try.func35 rfl trivial ?_ rfl
  simp only [Try.ntmps35, List.size_toArray, List.length_cons, List.length_nil, Nat.reduceAdd, Nat.reduceSub, Array.replicate_succ, Array.replicate_zero, List.push_toArray, List.append_toArray, List.nil_append, List.cons_append]
  gi_wp2
  try rw [hw0]
  clear hw0
  refine wpIn_wide.2 ?_
  go_cut [7, 8] from 10 (fun s7 s8 wx => ∃ k7 k8 : Nat, s7 = .pointer (some ⟨k7, 0, none⟩) ∧ s8 = .pointer (some ⟨k8, 0, none⟩) ∧ Blk wx k7 92 #[.pointer (some ⟨g, 0, none⟩)] ∧ kS.rd wx ⟨k8, 0, none⟩ = some k ∧ w0.heap.size ≤ k7 ∧ w0.heap.size ≤ k8 ∧ Below w0.heap.size w0 wx)
  case first =>
    refine wp_region_noPanic ?_
    refine wp_region_held_drew (S := fun W => Below w0.heap.size w0 W) (by kernel_rfl) (Below.refl _ _).drew (fun _ => ?_)
    obtain ⟨wd, hwd⟩ : ∃ wd, w0.drew = wd := ⟨_, rfl⟩
    have sd : Below w0.heap.size w0 wd := by rw [← hwd]; exact (Below.refl _ _).drew
    rw [hwd]
    clear hwd
    refine takeS 0 (some 10) ?vr0 (by kernel_rfl) (by kernel_rfl) (by kernel_rfl) (by kernel_rfl) (fun _ _ _ h => h) (by rfl) ?hyr0 sd ?restr0
    case hyr0 => (intro o ho W hW; simp only [List.getElem?_toArray, List.getElem?_cons_succ, List.getElem?_cons_zero, Option.some.injEq] at ho; subst ho; (try dsimp only at hW); skip; go_simp; try rfl)
    try simp only [Act.put, List.setIfInBounds_toArray, List.set_cons_zero, List.set_cons_succ]
    refine takeS 2 (some 12) ?vr2 (by kernel_rfl) (by kernel_rfl) (by kernel_rfl) (by kernel_rfl) (fun _ _ _ h => h) (by rfl) ?hyr2 sd ?restr2
    case hyr2 => (intro o ho W hW; simp only [List.getElem?_toArray, List.getElem?_cons_succ, List.getElem?_cons_zero, Option.some.injEq] at ho; subst ho; (try dsimp only at hW); have g0 := Shp.rd_on f0 hW; go_simp; try rfl)
    try simp only [Act.put, List.setIfInBounds_toArray, List.set_cons_zero, List.set_cons_succ]
    refine fork3 1 4 5 (by kernel_rfl) (by rfl) (by rfl) (by rfl) (fun o ho K hK => ?_) (fun o ho K hK => ?_) (fun o ho K hK => ?_)
    · simp only [List.getElem?_toArray, List.getElem?_cons_succ, List.getElem?_cons_zero, Option.some.injEq] at ho; subst ho
      go_simp
      (go_at_call 44; (with_reducible refine (top_any g _).mono ?_); rintro e u1x ⟨rfl, rfl⟩)
      refine hK.out _ _ sd (fun _ => ?_)
      clear hK K
      try simp only [Act.put, List.setIfInBounds_toArray, List.set_cons_zero, List.set_cons_succ]
      refine fork3 3 4 5 (by kernel_rfl) (by rfl) (by rfl) (by rfl) (fun o ho K hK => ?_) (fun o ho K hK => ?_) (fun o ho K hK => ?_)
      · simp only [List.getElem?_toArray, List.getElem?_cons_succ, List.getElem?_cons_zero, Option.some.injEq] at ho; subst ho
        go_simp
        (go_at_call 41; (with_reducible refine (CB.out _).mono ?_); rintro e u2w ⟨rfl, b2⟩)
        have s2 : Below w0.heap.size w0 u2w := below_up sd sd.size b2
        refine hK.out _ _ s2 (fun _ => ?_)
        clear hK K
        try simp only [Act.put, List.setIfInBounds_toArray, List.set_cons_zero, List.set_cons_succ]
        refine forkS 4 5 (by kernel_rfl) (by rfl) (by rfl) (fun o ho K hK => ?_) (fun o ho K hK => ?_)
        · simp only [List.getElem?_toArray, List.getElem?_cons_succ, List.getElem?_cons_zero, Option.some.injEq] at ho; subst ho
          go_simp
          have s3 : Below w0.heap.size w0 (u2w.alloc (.cells #[.pointer none] 92)) := s2.alloc s2.size _
          have q3 : Blk (u2w.alloc (.cells #[.pointer none] 92)) u2w.heap.size 92 #[.pointer none] := Blk.new u2w _ _
          refine hK.out _ _ s3 (fun _ => ?_)
          clear hK K
          try simp only [Act.put, List.setIfInBounds_toArray, List.set_cons_zero, List.set_cons_succ]
          obtain ⟨u3w, hu3w⟩ : ∃ V, u2w.alloc (.cells #[.pointer none] 92) = V := ⟨_, rfl⟩
          rw [hu3w] at s3 q3
          rw [hu3w]
          clear hu3w
          refine nextS 5 (by kernel_rfl) (by rfl) (fun o ho K hK => ?_)
          simp only [List.getElem?_toArray, List.getElem?_cons_succ, List.getElem?_cons_zero, Option.some.injEq] at ho; subst ho
          go_simp
          have s4 : Below w0.heap.size w0 (u3w.alloc (.cells #[.int .u8 0, .int .u8 0, .int .u8 0, .int .u8 0, .int .u8 0, .int .u8 0, .int .u8 0, .int .u8 0, .int .u8 0, .int .u8 0, .int .u8 0, .int .u8 0, .int .u8 0, .int .u8 0, .int .u8 0, .int .u8 0, .int .u8 0, .int .u8 0, .int .u8 0, .int .u8 0, .int .u8 0, .int .u8 0, .int .u8 0, .int .u8 0, .int .u8 0] 101)) := s3.alloc s3.size _
          have q4 : Shp.tn 25 (u3w.alloc (.cells #[.int .u8 0, .int .u8 0, .int .u8 0, .int .u8 0, .int .u8 0, .int .u8 0, .int .u8 0, .int .u8 0, .int .u8 0, .int .u8 0, .int .u8 0, .int .u8 0, .int .u8 0, .int .u8 0, .int .u8 0, .int .u8 0, .int .u8 0, .int .u8 0, .int .u8 0, .int .u8 0, .int .u8 0, .int .u8 0, .int .u8 0, .int .u8 0, .int .u8 0] 101)) u3w.heap.size = true := Shp.tn_of (Blk.new u3w _ _) rfl
          have t4_4 := Blk.on q3 (below_alloc_ u3w (.cells #[.int .u8 0, .int .u8 0, .int .u8 0, .int .u8 0, .int .u8 0, .int .u8 0, .int .u8 0, .int .u8 0, .int .u8 0, .int .u8 0, .int .u8 0, .int .u8 0, .int .u8 0, .int .u8 0, .int .u8 0, .int .u8 0, .int .u8 0, .int .u8 0, .int .u8 0, .int .u8 0, .int .u8 0, .int .u8 0, .int .u8 0, .int .u8 0, .int .u8 0] 101))
          have ne4_5 : u2w.heap.size ≠ u3w.heap.size := Nat.ne_of_lt (Blk.lt q3)
          refine hK.out _ _ s4 (fun _ => ?_)
          clear hK K
          try simp only [Act.put, List.setIfInBounds_toArray, List.set_cons_zero, List.set_cons_succ]
          obtain ⟨u4w, hu4w⟩ : ∃ V, u3w.alloc (.cells #[.int .u8 0, .int .u8 0, .int .u8 0, .int .u8 0, .int .u8 0, .int .u8 0, .int .u8 0, .int .u8 0, .int .u8 0, .int .u8 0, .int .u8 0, .int .u8 0, .int .u8 0, .int .u8 0, .int .u8 0, .int .u8 0, .int .u8 0, .int .u8 0, .int .u8 0, .int .u8 0, .int .u8 0, .int .u8 0, .int .u8 0, .int .u8 0, .int .u8 0] 101) = V := ⟨_, rfl⟩
          rw [hu4w] at s4 q4 t4_4
          rw [hu4w]
          clear hu4w
          have hc4 := t4_4.cell
          have hf4 := t4_4.free
          have B4 : Blk (u4w.setCell ⟨u2w.heap.size, 0, none⟩ (.pointer (some ⟨g, 0, none⟩))) (u2w.heap.size) 92 #[(.pointer (some ⟨g, 0, none⟩))] := t4_4.set_ _
          have t6 : Shp.tn 25 (u4w.setCell ⟨u2w.heap.size, 0, none⟩ (.pointer (some ⟨g, 0, none⟩))) (u3w.heap.size) = true := (Shp.tn_to (Below.heap_setCell _ _ _ _ (Ne.symm ne4_5))).trans q4
          refine nextS 6 (by kernel_rfl) (by rfl) (fun o ho K hK => ?_)
          simp only [List.getElem?_toArray, List.getElem?_cons_succ, List.getElem?_cons_zero, Option.some.injEq] at ho; subst ho
          go_simp
          have sA : Below w0.heap.size w0 (u4w.setCell ⟨u2w.heap.size, 0, none⟩ (.pointer (some ⟨g, 0, none⟩))) := s4.setCell s2.size _
          refine hK.out _ _ sA (fun _ => ?_)
          clear hK K
          try simp only [Act.put, List.setIfInBounds_toArray, List.set_cons_zero, List.set_cons_succ]
          refine nextS 7 (by kernel_rfl) (by rfl) (fun o ho K hK => ?_)
          simp only [List.getElem?_toArray, List.getElem?_cons_succ, List.getElem?_cons_zero, Option.some.injEq] at ho; subst ho
          go_simp
          have sB : Below w0.heap.size w0 ((u4w.setCell ⟨u2w.heap.size, 0, none⟩ (.pointer (some ⟨g, 0, none⟩))).setRow (u3w.heap.size) (kS.v k)) := below_setRow sA s3.size _
          refine hK.out _ _ sB (fun _ => ?_)
          clear hK K
          try simp only [Act.put, List.setIfInBounds_toArray, List.set_cons_zero, List.set_cons_succ]
          refine wpAnyH_done (by kernel_rfl) ?_ _
          refine NoPanic.normal ?_
          have RB := Shp.rd_set (S := kS) (u4w.setCell ⟨u2w.heap.size, 0, none⟩ (.pointer (some ⟨g, 0, none⟩))) (u3w.heap.size) k t6
          have A4 : Blk ((u4w.setCell ⟨u2w.heap.size, 0, none⟩ (.pointer (some ⟨g, 0, none⟩))).setRow (u3w.heap.size) (kS.v k)) (u2w.heap.size) 92 #[(.pointer (some ⟨g, 0, none⟩))] := ⟨(heap_setRow _ _ _ _ ne4_5).trans B4.out⟩
          have z4 : w0.heap.size ≤ u2w.heap.size := s2.size
          have z5 : w0.heap.size ≤ u3w.heap.size := s3.size
          go_wp2_with fail
          go_meet
          exact ⟨_, _, rfl, rfl, A4, RB, z4, z5, sB⟩
        · simp only [List.getElem?_toArray, List.getElem?_cons_succ, List.getElem?_cons_zero, Option.some.injEq] at ho; subst ho
          go_simp
          have s5 : Below w0.heap.size w0 (u2w.alloc (.cells #[.int .u8 0, .int .u8 0, .int .u8 0, .int .u8 0, .int .u8 0, .int .u8 0, .int .u8 0, .int .u8 0, .int .u8 0, .int .u8 0, .int .u8 0, .int .u8 0, .int .u8 0, .int .u8 0, .int .u8 0, .int .u8 0, .int .u8 0, .int .u8 0, .int .u8 0, .int .u8 0, .int .u8 0, .int .u8 0, .int .u8 0, .int .u8 0, .int .u8 0] 101)) := s2.alloc s2.size _
          have q5 : Shp.tn 25 (u2w.alloc (.cells #[.int .u8 0, .int .u8 0, .int .u8 0, .int .u8 0, .int .u8 0, .int .u8 0, .int .u8 0, .int .u8 0, .int .u8 0, .int .u8 0, .int .u8 0, .int .u8 0, .int .u8 0, .int .u8 0, .int .u8 0, .int .u8 0, .int .u8 0, .int .u8 0, .int .u8 0, .int .u8 0, .int .u8 0, .int .u8 0, .int .u8 0, .int .u8 0, .int .u8 0] 101)) u2w.heap.size = true := Shp.tn_of (Blk.new u2w _ _) rfl
          refine hK.out _ _ s5 (fun _ => ?_)
          clear hK K
          try simp only [Act.put, List.setIfInBounds_toArray, List.set_cons_zero, List.set_cons_succ]
          obtain ⟨u5w, hu5w⟩ : ∃ V, u2w.alloc (.cells #[.int .u8 0, .int .u8 0, .int .u8 0, .int .u8 0, .int .u8 0, .int .u8 0, .int .u8 0, .int .u8 0, .int .u8 0, .int .u8 0, .int .u8 0, .int .u8 0, .int .u8 0, .int .u8 0, .int .u8 0, .int .u8 0, .int .u8 0, .int .u8 0, .int .u8 0, .int .u8 0, .int .u8 0, .int .u8 0, .int .u8 0, .int .u8 0, .int .u8 0] 101) = V := ⟨_, rfl⟩
          rw [hu5w] at s5 q5
          rw [hu5w]
          clear hu5w
          refine nextS 4 (by kernel_rfl) (by rfl) (fun o ho K hK => ?_)
          simp only [List.getElem?_toArray, List.getElem?_cons_succ, List.getElem?_cons_zero, Option.some.injEq] at ho; subst ho
          go_simp
          have s6 : Below w0.heap.size w0 (u5w.alloc (.cells #[.pointer none] 92)) := s5.alloc s5.size _
          have q6 : Blk (u5w.alloc (.cells #[.pointer none] 92)) u5w.heap.size 92 #[.pointer none] := Blk.new u5w _ _
          have t5_6 := Shp.tn_on q5 (below_alloc_ u5w (.cells #[.pointer none] 92))
          have ne4_5 : u5w.heap.size ≠ u2w.heap.size := Nat.ne_of_gt (Shp.tn_lt q5)
          refine hK.out _ _ s6 (fun _ => ?_)
          clear hK K
          try simp only [Act.put, List.setIfInBounds_toArray, List.set_cons_zero, List.set_cons_succ]
          obtain ⟨u6w, hu6w⟩ : ∃ V, u5w.alloc (.cells #[.pointer none] 92) = V := ⟨_, rfl⟩
          rw [hu6w] at s6 q6 t5_6
          rw [hu6w]
          clear hu6w
          have hc4 := q6.cell
          have hf4 := q6.free
          have B4 : Blk (u6w.setCell ⟨u5w.heap.size, 0, none⟩ (.pointer (some ⟨g, 0, none⟩))) (u5w.heap.size) 92 #[(.pointer (some ⟨g, 0, none⟩))] := q6.set_ _
          have t6 : Shp.tn 25 (u6w.setCell ⟨u5w.heap.size, 0, none⟩ (.pointer (some ⟨g, 0, none⟩))) (u2w.heap.size) = true := (Shp.tn_to (Below.heap_setCell _ _ _ _ (Ne.symm ne4_5))).trans t5_6
          refine nextS 6 (by kernel_rfl) (by rfl) (fun o ho K hK => ?_)
          simp only [List.getElem?_toArray, List.getElem?_cons_succ, List.getElem?_cons_zero, Option.some.injEq] at ho; subst ho
          go_simp
          have sA : Below w0.heap.size w0 (u6w.setCell ⟨u5w.heap.size, 0, none⟩ (.pointer (some ⟨g, 0, none⟩))) := s6.setCell s5.size _
          refine hK.out _ _ sA (fun _ => ?_)
          clear hK K
          try simp only [Act.put, List.setIfInBounds_toArray, List.set_cons_zero, List.set_cons_succ]
          refine nextS 7 (by kernel_rfl) (by rfl) (fun o ho K hK => ?_)
          simp only [List.getElem?_toArray, List.getElem?_cons_succ, List.getElem?_cons_zero, Option.some.injEq] at ho; subst ho
          go_simp
          have sB : Below w0.heap.size w0 ((u6w.setCell ⟨u5w.heap.size, 0, none⟩ (.pointer (some ⟨g, 0, none⟩))).setRow (u2w.heap.size) (kS.v k)) := below_setRow sA s2.size _
          refine hK.out _ _ sB (fun _ => ?_)
          clear hK K
          try simp only [Act.put, List.setIfInBounds_toArray, List.set_cons_zero, List.set_cons_succ]
          refine wpAnyH_done (by kernel_rfl) ?_ _
          refine NoPanic.normal ?_
          have RB := Shp.rd_set (S := kS) (u6w.setCell ⟨u5w.heap.size, 0, none⟩ (.pointer (some ⟨g, 0, none⟩))) (u2w.heap.size) k t6
          have A4 : Blk ((u6w.setCell ⟨u5w.heap.size, 0, none⟩ (.pointer (some ⟨g, 0, none⟩))).setRow (u2w.heap.size) (kS.v k)) (u5w.heap.size) 92 #[(.pointer (some ⟨g, 0, none⟩))] := ⟨(heap_setRow _ _ _ _ ne4_5).trans B4.out⟩
          have z4 : w0.heap.size ≤ u5w.heap.size := s5.size
          have z5 : w0.heap.size ≤ u2w.heap.size := s2.size
          go_wp2_with fail
          go_meet
          exact ⟨_, _, rfl, rfl, A4, RB, z4, z5, sB⟩
      · simp only [List.getElem?_toArray, List.getElem?_cons_succ, List.getElem?_cons_zero, Option.some.injEq] at ho; subst ho
        go_simp
        have s7 : Below w0.heap.size w0 (wd.alloc (.cells #[.pointer none] 92)) := sd.alloc sd.size _
        have q7 : Blk (wd.alloc (.cells #[.pointer none] 92)) wd.heap.size 92 #[.pointer none] := Blk.new wd _ _
        refine hK.out _ _ s7 (fun _ => ?_)
        clear hK K
        try simp only [Act.put, List.setIfInBounds_toArray, List.set_cons_zero, List.set_cons_succ]
        obtain ⟨u7w, hu7w⟩ : ∃ V, wd.alloc (.cells #[.pointer none] 92) = V := ⟨_, rfl⟩
        rw [hu7w] at s7 q7
        rw [hu7w]
        clear hu7w
        refine forkS 3 5 (by kernel_rfl) (by rfl) (by rfl) (fun o ho K hK => ?_) (fun o ho K hK => ?_)
        · simp only [List.getElem?_toArray, List.getElem?_cons_succ, List.getElem?_cons_zero, Option.some.injEq] at ho; subst ho
          go_simp
          (go_at_call 41; (with_reducible refine (CB.out _).mono ?_); rintro e u8w ⟨rfl, b8⟩)
          have s8 : Below w0.heap.size w0 u8w := below_up s7 s7.size b8
          have t4_8 := Blk.on q7 b8
          refine hK.out _ _ s8 (fun _ => ?_)
          clear hK K
          try simp only [Act.put, List.setIfInBounds_toArray, List.set_cons_zero, List.set_cons_succ]
          refine nextS 5 (by kernel_rfl) (by rfl) (fun o ho K hK => ?_)
          simp only [List.getElem?_toArray, List.getElem?_cons_succ, List.getElem?_cons_zero, Option.some.injEq] at ho; subst ho
          go_simp
          have s9 : Below w0.heap.size w0 (u8w.alloc (.cells #[.int .u8 0, .int .u8 0, .int .u8 0, .int .u8 0, .int .u8 0, .int .u8 0, .int .u8 0, .int .u8 0, .int .u8 0, .int .u8 0, .int .u8 0, .int .u8 0, .int .u8 0, .int .u8 0, .int .u8 0, .int .u8 0, .int .u8 0, .int .u8 0, .int .u8 0, .int .u8 0, .int .u8 0, .int .u8 0, .int .u8 0, .int .u8 0, .int .u8 0] 101)) := s8.alloc s8.size _
          have q9 : Shp.tn 25 (u8w.alloc (.cells #[.int .u8 0, .int .u8 0, .int .u8 0, .int .u8 0, .int .u8 0, .int .u8 0, .int .u8 0, .int .u8 0, .int .u8 0, .int .u8 0, .int .u8 0, .int .u8 0, .int .u8 0, .int .u8 0, .int .u8 0, .int .u8 0, .int .u8 0, .int .u8 0, .int .u8 0, .int .u8 0, .int .u8 0, .int .u8 0, .int .u8 0, .int .u8 0, .int .u8 0] 101)) u8w.heap.size = true := Shp.tn_of (Blk.new u8w _ _) rfl
          have t4_9 := Blk.on t4_8 (below_alloc_ u8w (.cells #[.int .u8 0, .int .u8 0, .int .u8 0, .int .u8 0, .int .u8 0, .int .u8 0, .int .u8 0, .int .u8 0, .int .u8 0, .int .u8 0, .int .u8 0, .int .u8 0, .int .u8 0, .int .u8 0, .int .u8 0, .int .u8 0, .int .u8 0, .int .u8 0, .int .u8 0, .int .u8 0, .int .u8 0, .int .u8 0, .int .u8 0, .int .u8 0, .int .u8 0] 101))
          have ne4_5 : wd.heap.size ≠ u8w.heap.size := Nat.ne_of_lt (Blk.lt t4_8)
          refine hK.out _ _ s9 (fun _ => ?_)
          clear hK K
          try simp only [Act.put, List.setIfInBounds_toArray, List.set_cons_zero, List.set_cons_succ]
          obtain ⟨u9w, hu9w⟩ : ∃ V, u8w.alloc (.cells #[.int .u8 0, .int .u8 0, .int .u8 0, .int .u8 0, .int .u8 0, .int .u8 0, .int .u8 0, .int .u8 0, .int .u8 0, .int .u8 0, .int .u8 0, .int .u8 0, .int .u8 0, .int .u8 0, .int .u8 0, .int .u8 0, .int .u8 0, .int .u8 0, .int .u8 0, .int .u8 0, .int .u8 0, .int .u8 0, .int .u8 0, .int .u8 0, .int .u8 0] 101) = V := ⟨_, rfl⟩
          rw [hu9w] at s9 q9 t4_9
          rw [hu9w]
          clear hu9w
          have hc4 := t4_9.cell
          have hf4 := t4_9.free
          have B4 : Blk (u9w.setCell ⟨wd.heap.size, 0, none⟩ (.pointer (some ⟨g, 0, none⟩))) (wd.heap.size) 92 #[(.pointer (some ⟨g, 0, none⟩))] := t4_9.set_ _
          have t6 : Shp.tn 25 (u9w.setCell ⟨wd.heap.size, 0, none⟩ (.pointer (some ⟨g, 0, none⟩))) (u8w.heap.size) = true := (Shp.tn_to (Below.heap_setCell _ _ _ _ (Ne.symm ne4_5))).trans q9
          refine nextS 6 (by kernel_rfl) (by rfl) (fun o ho K hK => ?_)
          simp only [List.getElem?_toArray, List.getElem?_cons_succ, List.getElem?_cons_zero, Option.some.injEq] at ho; subst ho
          go_simp
          have sA : Below w0.heap.size w0 (u9w.setCell ⟨wd.heap.size, 0, none⟩ (.pointer (some ⟨g, 0, none⟩))) := s9.setCell sd.size _
          refine hK.out _ _ sA (fun _ => ?_)
          clear hK K
          try simp only [Act.put, List.setIfInBounds_toArray, List.set_cons_zero, List.set_cons_succ]
          refine nextS 7 (by kernel_rfl) (by rfl) (fun o ho K hK => ?_)
          simp only [List.getElem?_toArray, List.getElem?_cons_succ, List.getElem?_cons_zero, Option.some.injEq] at ho; subst ho
          go_simp
          have sB : Below w0.heap.size w0 ((u9w.setCell ⟨wd.heap.size, 0, none⟩ (.pointer (some ⟨g, 0, none⟩))).setRow (u8w.heap.size) (kS.v k)) := below_setRow sA s8.size _
          refine hK.out _ _ sB (fun _ => ?_)
          clear hK K
          try simp only [Act.put, List.setIfInBounds_toArray, List.set_cons_zero, List.set_cons_succ]
          refine wpAnyH_done (by kernel_rfl) ?_ _
          refine NoPanic.normal ?_
          have RB := Shp.rd_set (S := kS) (u9w.setCell ⟨wd.heap.size, 0, none⟩ (.pointer (some ⟨g, 0, none⟩))) (u8w.heap.size) k t6
          have A4 : Blk ((u9w.setCell ⟨wd.heap.size, 0, none⟩ (.pointer (some ⟨g, 0, none⟩))).setRow (u8w.heap.size) (kS.v k)) (wd.heap.size) 92 #[(.pointer (some ⟨g, 0, none⟩))] := ⟨(heap_setRow _ _ _ _ ne4_5).trans B4.out⟩
          have z4 : w0.heap.size ≤ wd.heap.size := sd.size
          have z5 : w0.heap.size ≤ u8w.heap.size := s8.size
          go_wp2_with fail
          go_meet
          exact ⟨_, _, rfl, rfl, A4, RB, z4, z5, sB⟩
        · simp only [List.getElem?_toArray, List.getElem?_cons_succ, List.getElem?_cons_zero, Option.some.injEq] at ho; subst ho
          go_simp
          have s10 : Below w0.heap.size w0 (u7w.alloc (.cells #[.int .u8 0, .int .u8 0, .int .u8 0, .int .u8 0, .int .u8 0, .int .u8 0, .int .u8 0, .int .u8 0, .int .u8 0, .int .u8 0, .int .u8 0, .int .u8 0, .int .u8 0, .int .u8 0, .int .u8 0, .int .u8 0, .int .u8 0, .int .u8 0, .int .u8 0, .int .u8 0, .int .u8 0, .int .u8 0, .int .u8 0, .int .u8 0, .int .u8 0] 101)) := s7.alloc s7.size _
          have q10 : Shp.tn 25 (u7w.alloc (.cells #[.int .u8 0, .int .u8 0, .int .u8 0, .int .u8 0, .int .u8 0, .int .u8 0, .int .u8 0, .int .u8 0, .int .u8 0, .int .u8 0, .int .u8 0, .int .u8 0, .int .u8 0, .int .u8 0, .int .u8 0, .int .u8 0, .int .u8 0, .int .u8 0, .int .u8 0, .int .u8 0, .int .u8 0, .int .u8 0, .int .u8 0, .int .u8 0, .int .u8 0] 101)) u7w.heap.size = true := Shp.tn_of (Blk.new u7w _ _) rfl
          have t4_10 := Blk.on q7 (below_alloc_ u7w (.cells #[.int .u8 0, .int .u8 0, .int .u8 0, .int .u8 0, .int .u8 0, .int .u8 0, .int .u8 0, .int .u8 0, .int .u8 0, .int .u8 0, .int .u8 0, .int .u8 0, .int .u8 0, .int .u8 0, .int .u8 0, .int .u8 0, .int .u8 0, .int .u8 0, .int .u8 0, .int .u8 0, .int .u8 0, .int .u8 0, .int .u8 0, .int .u8 0, .int .u8 0] 101))
          have ne4_5 : wd.heap.size ≠ u7w.heap.size := Nat.ne_of_lt (Blk.lt q7)
          refine hK.out _ _ s10 (fun _ => ?_)
          clear hK K
          try simp only [Act.put, List.setIfInBounds_toArray, List.set_cons_zero, List.set_cons_succ]
          obtain ⟨u10w, hu10w⟩ : ∃ V, u7w.alloc (.cells #[.int .u8 0, .int .u8 0, .int .u8 0, .int .u8 0, .int .u8 0, .int .u8 0, .int .u8 0, .int .u8 0, .int .u8 0, .int .u8 0, .int .u8 0, .int .u8 0, .int .u8 0, .int .u8 0, .int .u8 0, .int .u8 0, .int .u8 0, .int .u8 0, .int .u8 0, .int .u8 0, .int .u8 0, .int .u8 0, .int .u8 0, .int .u8 0, .int .u8 0] 101) = V := ⟨_, rfl⟩
          rw [hu10w] at s10 q10 t4_10
          rw [hu10w]
          clear hu10w
          refine nextS 3 (by kernel_rfl) (by rfl) (fun o ho K hK => ?_)
          simp only [List.getElem?_toArray, List.getElem?_cons_succ, List.getElem?_cons_zero, Option.some.injEq] at ho; subst ho
          go_simp
          (go_at_call 41; (with_reducible refine (CB.out _).mono ?_); rintro e u11w ⟨rfl, b11⟩)
          have s11 : Below w0.heap.size w0 u11w := below_up s10 s10.size b11
          have t4_11 := Blk.on t4_10 b11
          have t5_11 := Shp.tn_on q10 b11
          refine hK.out _ _ s11 (fun _ => ?_)
          clear hK K
          try simp only [Act.put, List.setIfInBounds_toArray, List.set_cons_zero, List.set_cons_succ]
          have hc4 := t4_11.cell
          have hf4 := t4_11.free
          have B4 : Blk (u11w.setCell ⟨wd.heap.size, 0, none⟩ (.pointer (some ⟨g, 0, none⟩))) (wd.heap.size) 92 #[(.pointer (some ⟨g, 0, none⟩))] := t4_11.set_ _
          have t6 : Shp.tn 25 (u11w.setCell ⟨wd.heap.size, 0, none⟩ (.pointer (some ⟨g, 0, none⟩))) (u7w.heap.size) = true := (Shp.tn_to (Below.heap_setCell _ _ _ _ (Ne.symm ne4_5))).trans t5_11
          refine nextS 6 (by kernel_rfl) (by rfl) (fun o ho K hK => ?_)
          simp only [List.getElem?_toArray, List.getElem?_cons_succ, List.getElem?_cons_zero, Option.some.injEq] at ho; subst ho
          go_simp
          have sA : Below w0.heap.size w0 (u11w.setCell ⟨wd.heap.size, 0, none⟩ (.pointer (some ⟨g, 0, none⟩))) := s11.setCell sd.size _
          refine hK.out _ _ sA (fun _ => ?_)
          clear hK K
          try simp only [Act.put, List.setIfInBounds_toArray, List.set_cons_zero, List.set_cons_succ]
          refine nextS 7 (by kernel_rfl) (by rfl) (fun o ho K hK => ?_)
          simp only [List.getElem?_toArray, List.getElem?_cons_succ, List.getElem?_cons_zero, Option.some.injEq] at ho; subst ho
          go_simp
          have sB : Below w0.heap.size w0 ((u11w.setCell ⟨wd.heap.size, 0, none⟩ (.pointer (some ⟨g, 0, none⟩))).setRow (u7w.heap.size) (kS.v k)) := below_setRow sA s7.size _
          refine hK.out _ _ sB (fun _ => ?_)
          clear hK K
          try simp only [Act.put, List.setIfInBounds_toArray, List.set_cons_zero, List.set_cons_succ]
          refine wpAnyH_done (by kernel_rfl) ?_ _
          refine NoPanic.normal ?_
          have RB := Shp.rd_set (S := kS) (u11w.setCell ⟨wd.heap.size, 0, none⟩ (.pointer (some ⟨g, 0, none⟩))) (u7w.heap.size) k t6
          have A4 : Blk ((u11w.setCell ⟨wd.heap.size, 0, none⟩ (.pointer (some ⟨g, 0, none⟩))).setRow (u7w.heap.size) (kS.v k)) (wd.heap.size) 92 #[(.pointer (some ⟨g, 0, none⟩))] := ⟨(heap_setRow _ _ _ _ ne4_5).trans B4.out⟩
          have z4 : w0.heap.size ≤ wd.heap.size := sd.size
          have z5 : w0.heap.size ≤ u7w.heap.size := s7.size
          go_wp2_with fail
          go_meet
          exact ⟨_, _, rfl, rfl, A4, RB, z4, z5, sB⟩
      · simp only [List.getElem?_toArray, List.getElem?_cons_succ, List.getElem?_cons_zero, Option.some.injEq] at ho; subst ho
        go_simp
        have s12 : Below w0.heap.size w0 (wd.alloc (.cells #[.int .u8 0, .int .u8 0, .int .u8 0, .int .u8 0, .int .u8 0, .int .u8 0, .int .u8 0, .int .u8 0, .int .u8 0, .int .u8 0, .int .u8 0, .int .u8 0, .int .u8 0, .int .u8 0, .int .u8 0, .int .u8 0, .int .u8 0, .int .u8 0, .int .u8 0, .int .u8 0, .int .u8 0, .int .u8 0, .int .u8 0, .int .u8 0, .int .u8 0] 101)) := sd.alloc sd.size _
        have q12 : Shp.tn 25 (wd.alloc (.cells #[.int .u8 0, .int .u8 0, .int .u8 0, .int .u8 0, .int .u8 0, .int .u8 0, .int .u8 0, .int .u8 0, .int .u8 0, .int .u8 0, .int .u8 0, .int .u8 0, .int .u8 0, .int .u8 0, .int .u8 0, .int .u8 0, .int .u8 0, .int .u8 0, .int .u8 0, .int .u8 0, .int .u8 0, .int .u8 0, .int .u8 0, .int .u8 0, .int .u8 0] 101)) wd.heap.size = true := Shp.tn_of (Blk.new wd _ _) rfl
        refine hK.out _ _ s12 (fun _ => ?_)
        clear hK K
        try simp only [Act.put, List.setIfInBounds_toArray, List.set_cons_zero, List.set_cons_succ]
        obtain ⟨u12w, hu12w⟩ : ∃ V, wd.alloc (.cells #[.int .u8 0, .int .u8 0, .int .u8 0, .int .u8 0, .int .u8 0, .int .u8 0, .int .u8 0, .int .u8 0, .int .u8 0, .int .u8 0, .int .u8 0, .int .u8 0, .int .u8 0, .int .u8 0, .int .u8 0, .int .u8 0, .int .u8 0, .int .u8 0, .int .u8 0, .int .u8 0, .int .u8 0, .int .u8 0, .int .u8 0, .int .u8 0, .int .u8 0] 101) = V := ⟨_, rfl⟩
        rw [hu12w] at s12 q12
        rw [hu12w]
        clear hu12w
        refine forkS 3 4 (by kernel_rfl) (by rfl) (by rfl) (fun o ho K hK => ?_) (fun o ho K hK => ?_)
        · simp only [List.getElem?_toArray, List.getElem?_cons_succ, List.getElem?_cons_zero, Option.some.injEq] at ho; subst ho
          go_simp
          (go_at_call 41; (with_reducible refine (CB.out _).mono ?_); rintro e u13w ⟨rfl, b13⟩)
          have s13 : Below w0.heap.size w0 u13w := below_up s12 s12.size b13
          have t5_13 := Shp.tn_on q12 b13
          refine hK.out _ _ s13 (fun _ => ?_)
          clear hK K
          try simp only [Act.put, List.setIfInBounds_toArray, List.set_cons_zero, List.set_cons_succ]
          refine nextS 4 (by kernel_rfl) (by rfl) (fun o ho K hK => ?_)
          simp only [List.getElem?_toArray, List.getElem?_cons_succ, List.getElem?_cons_zero, Option.some.injEq] at ho; subst ho
          go_simp
          have s14 : Below w0.heap.size w0 (u13w.alloc (.cells #[.pointer none] 92)) := s13.alloc s13.size _
          have q14 : Blk (u13w.alloc (.cells #[.pointer none] 92)) u13w.heap.size 92 #[.pointer none] := Blk.new u13w _ _
          have t5_14 := Shp.tn_on t5_13 (below_alloc_ u13w (.cells #[.pointer none] 92))
          have ne4_5 : u13w.heap.size ≠ wd.heap.size := Nat.ne_of_gt (Shp.tn_lt t5_13)
          refine hK.out _ _ s14 (fun _ => ?_)
          clear hK K
          try simp only [Act.put, List.setIfInBounds_toArray, List.set_cons_zero, List.set_cons_succ]
          obtain ⟨u14w, hu14w⟩ : ∃ V, u13w.alloc (.cells #[.pointer none] 92) = V := ⟨_, rfl⟩
          rw [hu14w] at s14 q14 t5_14
          rw [hu14w]
          clear hu14w
          have hc4 := q14.cell
          have hf4 := q14.free
          have B4 : Blk (u14w.setCell ⟨u13w.heap.size, 0, none⟩ (.pointer (some ⟨g, 0, none⟩))) (u13w.heap.size) 92 #[(.pointer (some ⟨g, 0, none⟩))] := q14.set_ _
          have t6 : Shp.tn 25 (u14w.setCell ⟨u13w.heap.size, 0, none⟩ (.pointer (some ⟨g, 0, none⟩))) (wd.heap.size) = true := (Shp.tn_to (Below.heap_setCell _ _ _ _ (Ne.symm ne4_5))).trans t5_14
          refine nextS 6 (by kernel_rfl) (by rfl) (fun o ho K hK => ?_)
          simp only [List.getElem?_toArray, List.getElem?_cons_succ, List.getElem?_cons_zero, Option.some.injEq] at ho; subst ho
          go_simp
          have sA : Below w0.heap.size w0 (u14w.setCell ⟨u13w.heap.size, 0, none⟩ (.pointer (some ⟨g, 0, none⟩))) := s14.setCell s13.size _
          refine hK.out _ _ sA (fun _ => ?_)
          clear hK K
          try simp only [Act.put, List.setIfInBounds_toArray, List.set_cons_zero, List.set_cons_succ]
          refine nextS 7 (by kernel_rfl) (by rfl) (fun o ho K hK => ?_)
          simp only [List.getElem?_toArray, List.getElem?_cons_succ, List.getElem?_cons_zero, Option.some.injEq] at ho; subst ho
          go_simp
          have sB : Below w0.heap.size w0 ((u14w.setCell ⟨u13w.heap.size, 0, none⟩ (.pointer (some ⟨g, 0, none⟩))).setRow (wd.heap.size) (kS.v k)) := below_setRow sA sd.size _
          refine hK.out _ _ sB (fun _ => ?_)
          clear hK K
          try simp only [Act.put, List.setIfInBounds_toArray, List.set_cons_zero, List.set_cons_succ]
          refine wpAnyH_done (by kernel_rfl) ?_ _
          refine NoPanic.normal ?_
          have RB := Shp.rd_set (S := kS) (u14w.setCell ⟨u13w.heap.size, 0, none⟩ (.pointer (some ⟨g, 0, none⟩))) (wd.heap.size) k t6
          have A4 : Blk ((u14w.setCell ⟨u13w.heap.size, 0, none⟩ (.pointer (some ⟨g, 0, none⟩))).setRow (wd.heap.size) (kS.v k)) (u13w.heap.size) 92 #[(.pointer (some ⟨g, 0, none⟩))] := ⟨(heap_setRow _ _ _ _ ne4_5).trans B4.out⟩
          have z4 : w0.heap.size ≤ u13w.heap.size := s13.size
          have z5 : w0.heap.size ≤ wd.heap.size := sd.size
          go_wp2_with fail
          go_meet
          exact ⟨_, _, rfl, rfl, A4, RB, z4, z5, sB⟩
        · simp only [List.getElem?_toArray, List.getElem?_cons_succ, List.getElem?_cons_zero, Option.some.injEq] at ho; subst ho
          go_simp
          have s15 : Below w0.heap.size w0 (u12w.alloc (.cells #[.pointer none] 92)) := s12.alloc s12.size _
          have q15 : Blk (u12w.alloc (.cells #[.pointer none] 92)) u12w.heap.size 92 #[.pointer none] := Blk.new u12w _ _
          have t5_15 := Shp.tn_on q12 (below_alloc_ u12w (.cells #[.pointer none] 92))
          have ne4_5 : u12w.heap.size ≠ wd.heap.size := Nat.ne_of_gt (Shp.tn_lt q12)
          refine hK.out _ _ s15 (fun _ => ?_)
          clear hK K
          try simp only [Act.put, List.setIfInBounds_toArray, List.set_cons_zero, List.set_cons_succ]
          obtain ⟨u15w, hu15w⟩ : ∃ V, u12w.alloc (.cells #[.pointer none] 92) = V := ⟨_, rfl⟩
          rw [hu15w] at s15 q15 t5_15
          rw [hu15w]
          clear hu15w
          refine nextS 3 (by kernel_rfl) (by rfl) (fun o ho K hK => ?_)
          simp only [List.getElem?_toArray, List.getElem?_cons_succ, List.getElem?_cons_zero, Option.some.injEq] at ho; subst ho
          go_simp
          (go_at_call 41; (with_reducible refine (CB.out _).mono ?_); rintro e u16w ⟨rfl, b16⟩)
          have s16 : Below w0.heap.size w0 u16w := below_up s15 s15.size b16
          have t5_16 := Shp.tn_on t5_15 b16
          have t4_16 := Blk.on q15 b16
          refine hK.out _ _ s16 (fun _ => ?_)
          clear hK K
          try simp only [Act.put, List.setIfInBounds_toArray, List.set_cons_zero, List.set_cons_succ]
          have hc4 := t4_16.cell
          have hf4 := t4_16.free
          have B4 : Blk (u16w.setCell ⟨u12w.heap.size, 0, none⟩ (.pointer (some ⟨g, 0, none⟩))) (u12w.heap.size) 92 #[(.pointer (some ⟨g, 0, none⟩))] := t4_16.set_ _
          have t6 : Shp.tn 25 (u16w.setCell ⟨u12w.heap.size, 0, none⟩ (.pointer (some ⟨g, 0, none⟩))) (wd.heap.size) = true := (Shp.tn_to (Below.heap_setCell _ _ _ _ (Ne.symm ne4_5))).trans t5_16
          refine nextS 6 (by kernel_rfl) (by rfl) (fun o ho K hK => ?_)
          simp only [List.getElem?_toArray, List.getElem?_cons_succ, List.getElem?_cons_zero, Option.some.injEq] at ho; subst ho
          go_simp
          have sA : Below w0.heap.size w0 (u16w.setCell ⟨u12w.heap.size, 0, none⟩ (.pointer (some ⟨g, 0, none⟩))) := s16.setCell s12.size _
          refine hK.out _ _ sA (fun _ => ?_)
          clear hK K
          try simp only [Act.put, List.setIfInBounds_toArray, List.set_cons_zero, List.set_cons_succ]
          refine nextS 7 (by kernel_rfl) (by rfl) (fun o ho K hK => ?_)
          simp only [List.getElem?_toArray, List.getElem?_cons_succ, List.getElem?_cons_zero, Option.some.injEq] at ho; subst ho
          go_simp
          have sB : Below w0.heap.size w0 ((u16w.setCell ⟨u12w.heap.size, 0, none⟩ (.pointer (some ⟨g, 0, none⟩))).setRow (wd.heap.size) (kS.v k)) := below_setRow sA sd.size _
          refine hK.out _ _ sB (fun _ => ?_)
          clear hK K
          try simp only [Act.put, List.setIfInBounds_toArray, List.set_cons_zero, List.set_cons_succ]
          refine wpAnyH_done (by kernel_rfl) ?_ _
          refine NoPanic.normal ?_
          have RB := Shp.rd_set (S := kS) (u16w.setCell ⟨u12w.heap.size, 0, none⟩ (.pointer (some ⟨g, 0, none⟩))) (wd.heap.size) k t6
          have A4 : Blk ((u16w.setCell ⟨u12w.heap.size, 0, none⟩ (.pointer (some ⟨g, 0, none⟩))).setRow (wd.heap.size) (kS.v k)) (u12w.heap.size) 92 #[(.pointer (some ⟨g, 0, none⟩))] := ⟨(heap_setRow _ _ _ _ ne4_5).trans B4.out⟩
          have z4 : w0.heap.size ≤ u12w.heap.size := s12.size
          have z5 : w0.heap.size ≤ wd.heap.size := sd.size
          go_wp2_with fail
          go_meet
          exact ⟨_, _, rfl, rfl, A4, RB, z4, z5, sB⟩
    · simp only [List.getElem?_toArray, List.getElem?_cons_succ, List.getElem?_cons_zero, Option.some.injEq] at ho; subst ho
      go_simp
      have s17 : Below w0.heap.size w0 (wd.alloc (.cells #[.pointer none] 92)) := sd.alloc sd.size _
      have q17 : Blk (wd.alloc (.cells #[.pointer none] 92)) wd.heap.size 92 #[.pointer none] := Blk.new wd _ _
      refine hK.out _ _ s17 (fun _ => ?_)
      clear hK K
      try simp only [Act.put, List.setIfInBounds_toArray, List.set_cons_zero, List.set_cons_succ]
      obtain ⟨u17w, hu17w⟩ : ∃ V, wd.alloc (.cells #[.pointer none] 92) = V := ⟨_, rfl⟩
      rw [hu17w] at s17 q17
      rw [hu17w]
      clear hu17w
      refine forkS 1 5 (by kernel_rfl) (by rfl) (by rfl) (fun o ho K hK => ?_) (fun o ho K hK => ?_)
      · simp only [List.getElem?_toArray, List.getElem?_cons_succ, List.getElem?_cons_zero, Option.some.injEq] at ho; subst ho
        go_simp
        (go_at_call 44; (with_reducible refine (top_any g _).mono ?_); rintro e u18x ⟨rfl, rfl⟩)
        refine hK.out _ _ s17 (fun _ => ?_)
        clear hK K
        try simp only [Act.put, List.setIfInBounds_toArray, List.set_cons_zero, List.set_cons_succ]
        refine forkS 3 5 (by kernel_rfl) (by rfl) (by rfl) (fun o ho K hK => ?_) (fun o ho K hK => ?_)
        · simp only [List.getElem?_toArray, List.getElem?_cons_succ, List.getElem?_cons_zero, Option.some.injEq] at ho; subst ho
          go_simp
          (go_at_call 41; (with_reducible refine (CB.out _).mono ?_); rintro e u19w ⟨rfl, b19⟩)
          have s19 : Below w0.heap.size w0 u19w := below_up s17 s17.size b19
          have t4_19 := Blk.on q17 b19
          refine hK.out _ _ s19 (fun _ => ?_)
          clear hK K
          try simp only [Act.put, List.setIfInBounds_toArray, List.set_cons_zero, List.set_cons_succ]
          refine nextS 5 (by kernel_rfl) (by rfl) (fun o ho K hK => ?_)
          simp only [List.getElem?_toArray, List.getElem?_cons_succ, List.getElem?_cons_zero, Option.some.injEq] at ho; subst ho
          go_simp
          have s20 : Below w0.heap.size w0 (u19w.alloc (.cells #[.int .u8 0, .int .u8 0, .int .u8 0, .int .u8 0, .int .u8 0, .int .u8 0, .int .u8 0, .int .u8 0, .int .u8 0, .int .u8 0, .int .u8 0, .int .u8 0, .int .u8 0, .int .u8 0, .int .u8 0, .int .u8 0, .int .u8 0, .int .u8 0, .int .u8 0, .int .u8 0, .int .u8 0, .int .u8 0, .int .u8 0, .int .u8 0, .int .u8 0] 101)) := s19.alloc s19.size _
          have q20 : Shp.tn 25 (u19w.alloc (.cells #[.int .u8 0, .int .u8 0, .int .u8 0, .int .u8 0, .int .u8 0, .int .u8 0, .int .u8 0, .int .u8 0, .int .u8 0, .int .u8 0, .int .u8 0, .int .u8 0, .int .u8 0, .int .u8 0, .int .u8 0, .int .u8 0, .int .u8 0, .int .u8 0, .int .u8 0, .int .u8 0, .int .u8 0, .int .u8 0, .int .u8 0, .int .u8 0, .int .u8 0] 101)) u19w.heap.size = true := Shp.tn_of (Blk.new u19w _ _) rfl
          have t4_20 := Blk.on t4_19 (below_alloc_ u19w (.cells #[.int .u8 0, .int .u8 0, .int .u8 0, .int .u8 0, .int .u8 0, .int .u8 0, .int .u8 0, .int .u8 0, .int .u8 0, .int .u8 0, .int .u8 0, .int .u8 0, .int .u8 0, .int .u8 0, .int .u8 0, .int .u8 0, .int .u8 0, .int .u8 0, .int .u8 0, .int .u8 0, .int .u8 0, .int .u8 0, .int .u8 0, .int .u8 0, .int .u8 0] 101))
          have ne4_5 : wd.heap.size ≠ u19w.heap.size := Nat.ne_of_lt (Blk.lt t4_19)
          refine hK.out _ _ s20 (fun _ => ?_)
          clear hK K
          try simp only [Act.put, List.setIfInBounds_toArray, List.set_cons_zero, List.set_cons_succ]
          obtain ⟨u20w, hu20w⟩ : ∃ V, u19w.alloc (.cells #[.int .u8 0, .int .u8 0, .int .u8 0, .int .u8 0, .int .u8 0, .int .u8 0, .int .u8 0, .int .u8 0, .int .u8 0, .int .u8 0, .int .u8 0, .int .u8 0, .int .u8 0, .int .u8 0, .int .u8 0, .int .u8 0, .int .u8 0, .int .u8 0, .int .u8 0, .int .u8 0, .int .u8 0, .int .u8 0, .int .u8 0, .int .u8 0, .int .u8 0] 101) = V := ⟨_, rfl⟩
          rw [hu20w] at s20 q20 t4_20
          rw [hu20w]
          clear hu20w
          have hc4 := t4_20.cell
          have hf4 := t4_20.free
          have B4 : Blk (u20w.setCell ⟨wd.heap.size, 0, none⟩ (.pointer (some ⟨g, 0, none⟩))) (wd.heap.size) 92 #[(.pointer (some ⟨g, 0, none⟩))] := t4_20.set_ _
          have t6 : Shp.tn 25 (u20w.setCell ⟨wd.heap.size, 0, none⟩ (.pointer (some ⟨g, 0, none⟩))) (u19w.heap.size) = true := (Shp.tn_to (Below.heap_setCell _ _ _ _ (Ne.symm ne4_5))).trans q20
          refine nextS 6 (by kernel_rfl) (by rfl) (fun o ho K hK => ?_)
          simp only [List.getElem?_toArray, List.getElem?_cons_succ, List.getElem?_cons_zero, Option.some.injEq] at ho; subst ho
          go_simp
          have sA : Below w0.heap.size w0 (u20w.setCell ⟨wd.heap.size, 0, none⟩ (.pointer (some ⟨g, 0, none⟩))) := s20.setCell sd.size _
          refine hK.out _ _ sA (fun _ => ?_)
          clear hK K
          try simp only [Act.put, List.setIfInBounds_toArray, List.set_cons_zero, List.set_cons_succ]
          refine nextS 7 (by kernel_rfl) (by rfl) (fun o ho K hK => ?_)
          simp only [List.getElem?_toArray, List.getElem?_cons_succ, List.getElem?_cons_zero, Option.some.injEq] at ho; subst ho
          go_simp
          have sB : Below w0.heap.size w0 ((u20w.setCell ⟨wd.heap.size, 0, none⟩ (.pointer (some ⟨g, 0, none⟩))).setRow (u19w.heap.size) (kS.v k)) := below_setRow sA s19.size _
          refine hK.out _ _ sB (fun _ => ?_)
          clear hK K
          try simp only [Act.put, List.setIfInBounds_toArray, List.set_cons_zero, List.set_cons_succ]
          refine wpAnyH_done (by kernel_rfl) ?_ _
          refine NoPanic.normal ?_
          have RB := Shp.rd_set (S := kS) (u20w.setCell ⟨wd.heap.size, 0, none⟩ (.pointer (some ⟨g, 0, none⟩))) (u19w.heap.size) k t6
          have A4 : Blk ((u20w.setCell ⟨wd.heap.size, 0, none⟩ (.pointer (some ⟨g, 0, none⟩))).setRow (u19w.heap.size) (kS.v k)) (wd.heap.size) 92 #[(.pointer (some ⟨g, 0, none⟩))] := ⟨(heap_setRow _ _ _ _ ne4_5).trans B4.out⟩
          have z4 : w0.heap.size ≤ wd.heap.size := sd.size
          have z5 : w0.heap.size ≤ u19w.heap.size := s19.size
          go_wp2_with fail
          go_meet
          exact ⟨_, _, rfl, rfl, A4, RB, z4, z5, sB⟩
        · simp only [List.getElem?_toArray, List.getElem?_cons_succ, List.getElem?_cons_zero, Option.some.injEq] at ho; subst ho
          go_simp
          have s21 : Below w0.heap.size w0 (u17w.alloc (.cells #[.int .u8 0, .int .u8 0, .int .u8 0, .int .u8 0, .int .u8 0, .int .u8 0, .int .u8 0, .int .u8 0, .int .u8 0, .int .u8 0, .int .u8 0, .int .u8 0, .int .u8 0, .int .u8 0, .int .u8 0, .int .u8 0, .int .u8 0, .int .u8 0, .int .u8 0, .int .u8 0, .int .u8 0, .int .u8 0, .int .u8 0, .int .u8 0, .int .u8 0] 101)) := s17.alloc s17.size _
          have q21 : Shp.tn 25 (u17w.alloc (.cells #[.int .u8 0, .int .u8 0, .int .u8 0, .int .u8 0, .int .u8 0, .int .u8 0, .int .u8 0, .int .u8 0, .int .u8 0, .int .u8 0, .int .u8 0, .int .u8 0, .int .u8 0, .int .u8 0, .int .u8 0, .int .u8 0, .int .u8 0, .int .u8 0, .int .u8 0, .int .u8 0, .int .u8 0, .int .u8 0, .int .u8 0, .int .u8 0, .int .u8 0] 101)) u17w.heap.size = true := Shp.tn_of (Blk.new u17w _ _) rfl
          have t4_21 := Blk.on q17 (below_alloc_ u17w (.cells #[.int .u8 0, .int .u8 0, .int .u8 0, .int .u8 0, .int .u8 0, .int .u8 0, .int .u8 0, .int .u8 0, .int .u8 0, .int .u8 0, .int .u8 0, .int .u8 0, .int .u8 0, .int .u8 0, .int .u8 0, .int .u8 0, .int .u8 0, .int .u8 0, .int .u8 0, .int .u8 0, .int .u8 0, .int .u8 0, .int .u8 0, .int .u8 0, .int .u8 0] 101))
          have ne4_5 : wd.heap.size ≠ u17w.heap.size := Nat.ne_of_lt (Blk.lt q17)
          refine hK.out _ _ s21 (fun _ => ?_)
          clear hK K
          try simp only [Act.put, List.setIfInBounds_toArray, List.set_cons_zero, List.set_cons_succ]
          obtain ⟨u21w, hu21w⟩ : ∃ V, u17w.alloc (.cells #[.int .u8 0, .int .u8 0, .int .u8 0, .int .u8 0, .int .u8 0, .int .u8 0, .int .u8 0, .int .u8 0, .int .u8 0, .int .u8 0, .int .u8 0, .int .u8 0, .int .u8 0, .int .u8 0, .int .u8 0, .int .u8 0, .int .u8 0, .int .u8 0, .int .u8 0, .int .u8 0, .int .u8 0, .int .u8 0, .int .u8 0, .int .u8 0, .int .u8 0] 101) = V := ⟨_, rfl⟩
          rw [hu21w] at s21 q21 t4_21
          rw [hu21w]
          clear hu21w
          refine nextS 3 (by kernel_rfl) (by rfl) (fun o ho K hK => ?_)
          simp only [List.getElem?_toArray, List.getElem?_cons_succ, List.getElem?_cons_zero, Option.some.injEq] at ho; subst ho
          go_simp
          (go_at_call 41; (with_reducible refine (CB.out _).mono ?_); rintro e u22w ⟨rfl, b22⟩)
          have s22 : Below w0.heap.size w0 u22w := below_up s21 s21.size b22
          have t4_22 := Blk.on t4_21 b22
          have t5_22 := Shp.tn_on q21 b22
          refine hK.out _ _ s22 (fun _ => ?_)
          clear hK K
          try simp only [Act.put, List.setIfInBounds_toArray, List.set_cons_zero, List.set_cons_succ]
          have hc4 := t4_22.cell
          have hf4 := t4_22.free
          have B4 : Blk (u22w.setCell ⟨wd.heap.size, 0, none⟩ (.pointer (some ⟨g, 0, none⟩))) (wd.heap.size) 92 #[(.pointer (some ⟨g, 0, none⟩))] := t4_22.set_ _
          have t6 : Shp.tn 25 (u22w.setCell ⟨wd.heap.size, 0, none⟩ (.pointer (some ⟨g, 0, none⟩))) (u17w.heap.size) = true := (Shp.tn_to (Below.heap_setCell _ _ _ _ (Ne.symm ne4_5))).trans t5_22
          refine nextS 6 (by kernel_rfl) (by rfl) (fun o ho K hK => ?_)
          simp only [List.getElem?_toArray, List.getElem?_cons_succ, List.getElem?_cons_zero, Option.some.injEq] at ho; subst ho
          go_simp
          have sA : Below w0.heap.size w0 (u22w.setCell ⟨wd.heap.size, 0, none⟩ (.pointer (some ⟨g, 0, none⟩))) := s22.setCell sd.size _
          refine hK.out _ _ sA (fun _ => ?_)
          clear hK K
          try simp only [Act.put, List.setIfInBounds_toArray, List.set_cons_zero, List.set_cons_succ]
          refine nextS 7 (by kernel_rfl) (by rfl) (fun o ho K hK => ?_)
          simp only [List.getElem?_toArray, List.getElem?_cons_succ, List.getElem?_cons_zero, Option.some.injEq] at ho; subst ho
          go_simp
          have sB : Below w0.heap.size w0 ((u22w.setCell ⟨wd.heap.size, 0, none⟩ (.pointer (some ⟨g, 0, none⟩))).setRow (u17w.heap.size) (kS.v k)) := below_setRow sA s17.size _
          refine hK.out _ _ sB (fun _ => ?_)
          clear hK K
          try simp only [Act.put, List.setIfInBounds_toArray, List.set_cons_zero, List.set_cons_succ]
          refine wpAnyH_done (by kernel_rfl) ?_ _
          refine NoPanic.normal ?_
          have RB := Shp.rd_set (S := kS) (u22w.setCell ⟨wd.heap.size, 0, none⟩ (.pointer (some ⟨g, 0, none⟩))) (u17w.heap.size) k t6
          have A4 : Blk ((u22w.setCell ⟨wd.heap.size, 0, none⟩ (.pointer (some ⟨g, 0, none⟩))).setRow (u17w.heap.size) (kS.v k)) (wd.heap.size) 92 #[(.pointer (some ⟨g, 0, none⟩))] := ⟨(heap_setRow _ _ _ _ ne4_5).trans B4.out⟩
          have z4 : w0.heap.size ≤ wd.heap.size := sd.size
          have z5 : w0.heap.size ≤ u17w.heap.size := s17.size
          go_wp2_with fail
          go_meet
          exact ⟨_, _, rfl, rfl, A4, RB, z4, z5, sB⟩
      · simp only [List.getElem?_toArray, List.getElem?_cons_succ, List.getElem?_cons_zero, Option.some.injEq] at ho; subst ho
        go_simp
        have s23 : Below w0.heap.size w0 (u17w.alloc (.cells #[.int .u8 0, .int .u8 0, .int .u8 0, .int .u8 0, .int .u8 0, .int .u8 0, .int .u8 0, .int .u8 0, .int .u8 0, .int .u8 0, .int .u8 0, .int .u8 0, .int .u8 0, .int .u8 0, .int .u8 0, .int .u8 0, .int .u8 0, .int .u8 0, .int .u8 0, .int .u8 0, .int .u8 0, .int .u8 0, .int .u8 0, .int .u8 0, .int .u8 0] 101)) := s17.alloc s17.size _
        have q23 : Shp.tn 25 (u17w.alloc (.cells #[.int .u8 0, .int .u8 0, .int .u8 0, .int .u8 0, .int .u8 0, .int .u8 0, .int .u8 0, .int .u8 0, .int .u8 0, .int .u8 0, .int .u8 0, .int .u8 0, .int .u8 0, .int .u8 0, .int .u8 0, .int .u8 0, .int .u8 0, .int .u8 0, .int .u8 0, .int .u8 0, .int .u8 0, .int .u8 0, .int .u8 0, .int .u8 0, .int .u8 0] 101)) u17w.heap.size = true := Shp.tn_of (Blk.new u17w _ _) rfl
        have t4_23 := Blk.on q17 (below_alloc_ u17w (.cells #[.int .u8 0, .int .u8 0, .int .u8 0, .int .u8 0, .int .u8 0, .int .u8 0, .int .u8 0, .int .u8 0, .int .u8 0, .int .u8 0, .int .u8 0, .int .u8 0, .int .u8 0, .int .u8 0, .int .u8 0, .int .u8 0, .int .u8 0, .int .u8 0, .int .u8 0, .int .u8 0, .int .u8 0, .int .u8 0, .int .u8 0, .int .u8 0, .int .u8 0] 101))
        have ne4_5 : wd.heap.size ≠ u17w.heap.size := Nat.ne_of_lt (Blk.lt q17)
        refine hK.out _ _ s23 (fun _ => ?_)
        clear hK K
        try simp only [Act.put, List.setIfInBounds_toArray, List.set_cons_zero, List.set_cons_succ]
        obtain ⟨u23w, hu23w⟩ : ∃ V, u17w.alloc (.cells #[.int .u8 0, .int .u8 0, .int .u8 0, .int .u8 0, .int .u8 0, .int .u8 0, .int .u8 0, .int .u8 0, .int .u8 0, .int .u8 0, .int .u8 0, .int .u8 0, .int .u8 0, .int .u8 0, .int .u8 0, .int .u8 0, .int .u8 0, .int .u8 0, .int .u8 0, .int .u8 0, .int .u8 0, .int .u8 0, .int .u8 0, .int .u8 0, .int .u8 0] 101) = V := ⟨_, rfl⟩
        rw [hu23w] at s23 q23 t4_23
        rw [hu23w]
        clear hu23w
        refine nextS 1 (by kernel_rfl) (by rfl) (fun o ho K hK => ?_)
        simp only [List.getElem?_toArray, List.getElem?_cons_succ, List.getElem?_cons_zero, Option.some.injEq] at ho; subst ho
        go_simp
        (go_at_call 44; (with_reducible refine (top_any g _).mono ?_); rintro e u24x ⟨rfl, rfl⟩)
        refine hK.out _ _ s23 (fun _ => ?_)
        clear hK K
        try simp only [Act.put, List.setIfInBounds_toArray, List.set_cons_zero, List.set_cons_succ]
        refine nextS 3 (by kernel_rfl) (by rfl) (fun o ho K hK => ?_)
        simp only [List.getElem?_toArray, List.getElem?_cons_succ, List.getElem?_cons_zero, Option.some.injEq] at ho; subst ho
        go_simp
        (go_at_call 41; (with_reducible refine (CB.out _).mono ?_); rintro e u25w ⟨rfl, b25⟩)
        have s25 : Below w0.heap.size w0 u25w := below_up s23 s23.size b25
        have t4_25 := Blk.on t4_23 b25
        have t5_25 := Shp.tn_on q23 b25
        refine hK.out _ _ s25 (fun _ => ?_)
        clear hK K
        try simp only [Act.put, List.setIfInBounds_toArray, List.set_cons_zero, List.set_cons_succ]
        have hc4 := t4_25.cell
        have hf4 := t4_25.free
        have B4 : Blk (u25w.setCell ⟨wd.heap.size, 0, none⟩ (.pointer (some ⟨g, 0, none⟩))) (wd.heap.size) 92 #[(.pointer (some ⟨g, 0, none⟩))] := t4_25.set_ _
        have t6 : Shp.tn 25 (u25w.setCell ⟨wd.heap.size, 0, none⟩ (.pointer (some ⟨g, 0, none⟩))) (u17w.heap.size) = true := (Shp.tn_to (Below.heap_setCell _ _ _ _ (Ne.symm ne4_5))).trans t5_25
        refine nextS 6 (by kernel_rfl) (by rfl) (fun o ho K hK => ?_)
        simp only [List.getElem?_toArray, List.getElem?_cons_succ, List.getElem?_cons_zero, Option.some.injEq] at ho; subst ho
        go_simp
        have sA : Below w0.heap.size w0 (u25w.setCell ⟨wd.heap.size, 0, none⟩ (.pointer (some ⟨g, 0, none⟩))) := s25.setCell sd.size _
        refine hK.out _ _ sA (fun _ => ?_)
        clear hK K
        try simp only [Act.put, List.setIfInBounds_toArray, List.set_cons_zero, List.set_cons_succ]
        refine nextS 7 (by kernel_rfl) (by rfl) (fun o ho K hK => ?_)
        simp only [List.getElem?_toArray, List.getElem?_cons_succ, List.getElem?_cons_zero, Option.some.injEq] at ho; subst ho
        go_simp
        have sB : Below w0.heap.size w0 ((u25w.setCell ⟨wd.heap.size, 0, none⟩ (.pointer (some ⟨g, 0, none⟩))).setRow (u17w.heap.size) (kS.v k)) := below_setRow sA s17.size _
        refine hK.out _ _ sB (fun _ => ?_)
        clear hK K
        try simp only [Act.put, List.setIfInBounds_toArray, List.set_cons_zero, List.set_cons_succ]
        refine wpAnyH_done (by kernel_rfl) ?_ _
        refine NoPanic.normal ?_
        have RB := Shp.rd_set (S := kS) (u25w.setCell ⟨wd.heap.size, 0, none⟩ (.pointer (some ⟨g, 0, none⟩))) (u17w.heap.size) k t6
        have A4 : Blk ((u25w.setCell ⟨wd.heap.size, 0, none⟩ (.pointer (some ⟨g, 0, none⟩))).setRow (u17w.heap.size) (kS.v k)) (wd.heap.size) 92 #[(.pointer (some ⟨g, 0, none⟩))] := ⟨(heap_setRow _ _ _ _ ne4_5).trans B4.out⟩
        have z4 : w0.heap.size ≤ wd.heap.size := sd.size
        have z5 : w0.heap.size ≤ u17w.heap.size := s17.size
        go_wp2_with fail
        go_meet
        exact ⟨_, _, rfl, rfl, A4, RB, z4, z5, sB⟩
    · simp only [List.getElem?_toArray, List.getElem?_cons_succ, List.getElem?_cons_zero, Option.some.injEq] at ho; subst ho
      go_simp
      have s26 : Below w0.heap.size w0 (wd.alloc (.cells #[.int .u8 0, .int .u8 0, .int .u8 0, .int .u8 0, .int .u8 0, .int .u8 0, .int .u8 0, .int .u8 0, .int .u8 0, .int .u8 0, .int .u8 0, .int .u8 0, .int .u8 0, .int .u8 0, .int .u8 0, .int .u8 0, .int .u8 0, .int .u8 0, .int .u8 0, .int .u8 0, .int .u8 0, .int .u8 0, .int .u8 0, .int .u8 0, .int .u8 0] 101)) := sd.alloc sd.size _
      have q26 : Shp.tn 25 (wd.alloc (.cells #[.int .u8 0, .int .u8 0, .int .u8 0, .int .u8 0, .int .u8 0, .int .u8 0, .int .u8 0, .int .u8 0, .int .u8 0, .int .u8 0, .int .u8 0, .int .u8 0, .int .u8 0, .int .u8 0, .int .u8 0, .int .u8 0, .int .u8 0, .int .u8 0, .int .u8 0, .int .u8 0, .int .u8 0, .int .u8 0, .int .u8 0, .int .u8 0, .int .u8 0] 101)) wd.heap.size = true := Shp.tn_of (Blk.new wd _ _) rfl
      refine hK.out _ _ s26 (fun _ => ?_)
      clear hK K
      try simp only [Act.put, List.setIfInBounds_toArray, List.set_cons_zero, List.set_cons_succ]
      obtain ⟨u26w, hu26w⟩ : ∃ V, wd.alloc (.cells #[.int .u8 0, .int .u8 0, .int .u8 0, .int .u8 0, .int .u8 0, .int .u8 0, .int .u8 0, .int .u8 0, .int .u8 0, .int .u8 0, .int .u8 0, .int .u8 0, .int .u8 0, .int .u8 0, .int .u8 0, .int .u8 0, .int .u8 0, .int .u8 0, .int .u8 0, .int .u8 0, .int .u8 0, .int .u8 0, .int .u8 0, .int .u8 0, .int .u8 0] 101) = V := ⟨_, rfl⟩
      rw [hu26w] at s26 q26
      rw [hu26w]
      clear hu26w
      refine forkS 1 4 (by kernel_rfl) (by rfl) (by rfl) (fun o ho K hK => ?_) (fun o ho K hK => ?_)
      · simp only [List.getElem?_toArray, List.getElem?_cons_succ, List.getElem?_cons_zero, Option.some.injEq] at ho; subst ho
        go_simp
        (go_at_call 44; (with_reducible refine (top_any g _).mono ?_); rintro e u27x ⟨rfl, rfl⟩)
        refine hK.out _ _ s26 (fun _ => ?_)
        clear hK K
        try simp only [Act.put, List.setIfInBounds_toArray, List.set_cons_zero, List.set_cons_succ]
        refine forkS 3 4 (by kernel_rfl) (by rfl) (by rfl) (fun o ho K hK => ?_) (fun o ho K hK => ?_)
        · simp only [List.getElem?_toArray, List.getElem?_cons_succ, List.getElem?_cons_zero, Option.some.injEq] at ho; subst ho
          go_simp
          (go_at_call 41; (with_reducible refine (CB.out _).mono ?_); rintro e u28w ⟨rfl, b28⟩)
          have s28 : Below w0.heap.size w0 u28w := below_up s26 s26.size b28
          have t5_28 := Shp.tn_on q26 b28
          refine hK.out _ _ s28 (fun _ => ?_)
          clear hK K
          try simp only [Act.put, List.setIfInBounds_toArray, List.set_cons_zero, List.set_cons_succ]
          refine nextS 4 (by kernel_rfl) (by rfl) (fun o ho K hK => ?_)
          simp only [List.getElem?_toArray, List.getElem?_cons_succ, List.getElem?_cons_zero, Option.some.injEq] at ho; subst ho
          go_simp
          have s29 : Below w0.heap.size w0 (u28w.alloc (.cells #[.pointer none] 92)) := s28.alloc s28.size _
          have q29 : Blk (u28w.alloc (.cells #[.pointer none] 92)) u28w.heap.size 92 #[.pointer none] := Blk.new u28w _ _
          have t5_29 := Shp.tn_on t5_28 (below_alloc_ u28w (.cells #[.pointer none] 92))
          have ne4_5 : u28w.heap.size ≠ wd.heap.size := Nat.ne_of_gt (Shp.tn_lt t5_28)
          refine hK.out _ _ s29 (fun _ => ?_)
          clear hK K
          try simp only [Act.put, List.setIfInBounds_toArray, List.set_cons_zero, List.set_cons_succ]
          obtain ⟨u29w, hu29w⟩ : ∃ V, u28w.alloc (.cells #[.pointer none] 92) = V := ⟨_, rfl⟩
          rw [hu29w] at s29 q29 t5_29
          rw [hu29w]
          clear hu29w
          have hc4 := q29.cell
          have hf4 := q29.free
          have B4 : Blk (u29w.setCell ⟨u28w.heap.size, 0, none⟩ (.pointer (some ⟨g, 0, none⟩))) (u28w.heap.size) 92 #[(.pointer (some ⟨g, 0, none⟩))] := q29.set_ _
          have t6 : Shp.tn 25 (u29w.setCell ⟨u28w.heap.size, 0, none⟩ (.pointer (some ⟨g, 0, none⟩))) (wd.heap.size) = true := (Shp.tn_to (Below.heap_setCell _ _ _ _ (Ne.symm ne4_5))).trans t5_29
          refine nextS 6 (by kernel_rfl) (by rfl) (fun o ho K hK => ?_)
          simp only [List.getElem?_toArray, List.getElem?_cons_succ, List.getElem?_cons_zero, Option.some.injEq] at ho; subst ho
          go_simp
          have sA : Below w0.heap.size w0 (u29w.setCell ⟨u28w.heap.size, 0, none⟩ (.pointer (some ⟨g, 0, none⟩))) := s29.setCell s28.size _
          refine hK.out _ _ sA (fun _ => ?_)
          clear hK K
          try simp only [Act.put, List.setIfInBounds_toArray, List.set_cons_zero, List.set_cons_succ]
          refine nextS 7 (by kernel_rfl) (by rfl) (fun o ho K hK => ?_)
          simp only [List.getElem?_toArray, List.getElem?_cons_succ, List.getElem?_cons_zero, Option.some.injEq] at ho; subst ho
          go_simp
          have sB : Below w0.heap.size w0 ((u29w.setCell ⟨u28w.heap.size, 0, none⟩ (.pointer (some ⟨g, 0, none⟩))).setRow (wd.heap.size) (kS.v k)) := below_setRow sA sd.size _
          refine hK.out _ _ sB (fun _ => ?_)
          clear hK K
          try simp only [Act.put, List.setIfInBounds_toArray, List.set_cons_zero, List.set_cons_succ]
          refine wpAnyH_done (by kernel_rfl) ?_ _
          refine NoPanic.normal ?_
          have RB := Shp.rd_set (S := kS) (u29w.setCell ⟨u28w.heap.size, 0, none⟩ (.pointer (some ⟨g, 0, none⟩))) (wd.heap.size) k t6
          have A4 : Blk ((u29w.setCell ⟨u28w.heap.size, 0, none⟩ (.pointer (some ⟨g, 0, none⟩))).setRow (wd.heap.size) (kS.v k)) (u28w.heap.size) 92 #[(.pointer (some ⟨g, 0, none⟩))] := ⟨(heap_setRow _ _ _ _ ne4_5).trans B4.out⟩
          have z4 : w0.heap.size ≤ u28w.heap.size := s28.size
          have z5 : w0.heap.size ≤ wd.heap.size := sd.size
          go_wp2_with fail
          go_meet
          exact ⟨_, _, rfl, rfl, A4, RB, z4, z5, sB⟩
        · simp only [List.getElem?_toArray, List.getElem?_cons_succ, List.getElem?_cons_zero, Option.some.injEq] at ho; subst ho
          go_simp
          have s30 : Below w0.heap.size w0 (u26w.alloc (.cells #[.pointer none] 92)) := s26.alloc s26.size _
          have q30 : Blk (u26w.alloc (.cells #[.pointer none] 92)) u26w.heap.size 92 #[.pointer none] := Blk.new u26w _ _
          have t5_30 := Shp.tn_on q26 (below_alloc_ u26w (.cells #[.pointer none] 92))
          have ne4_5 : u26w.heap.size ≠ wd.heap.size := Nat.ne_of_gt (Shp.tn_lt q26)
          refine hK.out _ _ s30 (fun _ => ?_)
          clear hK K
          try simp only [Act.put, List.setIfInBounds_toArray, List.set_cons_zero, List.set_cons_succ]
          obtain ⟨u30w, hu30w⟩ : ∃ V, u26w.alloc (.cells #[.pointer none] 92) = V := ⟨_, rfl⟩
          rw [hu30w] at s30 q30 t5_30
          rw [hu30w]
          clear hu30w
          refine nextS 3 (by kernel_rfl) (by rfl) (fun o ho K hK => ?_)
          simp only [List.getElem?_toArray, List.getElem?_cons_succ, List.getElem?_cons_zero, Option.some.injEq] at ho; subst ho
          go_simp
          (go_at_call 41; (with_reducible refine (CB.out _).mono ?_); rintro e u31w ⟨rfl, b31⟩)
          have s31 : Below w0.heap.size w0 u31w := below_up s30 s30.size b31
          have t5_31 := Shp.tn_on t5_30 b31
          have t4_31 := Blk.on q30 b31
          refine hK.out _ _ s31 (fun _ => ?_)
          clear hK K
          try simp only [Act.put, List.setIfInBounds_toArray, List.set_cons_zero, List.set_cons_succ]
          have hc4 := t4_31.cell
          have hf4 := t4_31.free
          have B4 : Blk (u31w.setCell ⟨u26w.heap.size, 0, none⟩ (.pointer (some ⟨g, 0, none⟩))) (u26w.heap.size) 92 #[(.pointer (some ⟨g, 0, none⟩))] := t4_31.set_ _
          have t6 : Shp.tn 25 (u31w.setCell ⟨u26w.heap.size, 0, none⟩ (.pointer (some ⟨g, 0, none⟩))) (wd.heap.size) = true := (Shp.tn_to (Below.heap_setCell _ _ _ _ (Ne.symm ne4_5))).trans t5_31
          refine nextS 6 (by kernel_rfl) (by rfl) (fun o ho K hK => ?_)
          simp only [List.getElem?_toArray, List.getElem?_cons_succ, List.getElem?_cons_zero, Option.some.injEq] at ho; subst ho
          go_simp
          have sA : Below w0.heap.size w0 (u31w.setCell ⟨u26w.heap.size, 0, none⟩ (.pointer (some ⟨g, 0, none⟩))) := s31.setCell s26.size _
          refine hK.out _ _ sA (fun _ => ?_)
          clear hK K
          try simp only [Act.put, List.setIfInBounds_toArray, List.set_cons_zero, List.set_cons_succ]
          refine nextS 7 (by kernel_rfl) (by rfl) (fun o ho K hK => ?_)
          simp only [List.getElem?_toArray, List.getElem?_cons_succ, List.getElem?_cons_zero, Option.some.injEq] at ho; subst ho
          go_simp
          have sB : Below w0.heap.size w0 ((u31w.setCell ⟨u26w.heap.size, 0, none⟩ (.pointer (some ⟨g, 0, none⟩))).setRow (wd.heap.size) (kS.v k)) := below_setRow sA sd.size _
          refine hK.out _ _ sB (fun _ => ?_)
          clear hK K
          try simp only [Act.put, List.setIfInBounds_toArray, List.set_cons_zero, List.set_cons_succ]
          refine wpAnyH_done (by kernel_rfl) ?_ _
          refine NoPanic.normal ?_
          have RB := Shp.rd_set (S := kS) (u31w.setCell ⟨u26w.heap.size, 0, none⟩ (.pointer (some ⟨g, 0, none⟩))) (wd.heap.size) k t6
          have A4 : Blk ((u31w.setCell ⟨u26w.heap.size, 0, none⟩ (.pointer (some ⟨g, 0, none⟩))).setRow (wd.heap.size) (kS.v k)) (u26w.heap.size) 92 #[(.pointer (some ⟨g, 0, none⟩))] := ⟨(heap_setRow _ _ _ _ ne4_5).trans B4.out⟩
          have z4 : w0.heap.size ≤ u26w.heap.size := s26.size
          have z5 : w0.heap.size ≤ wd.heap.size := sd.size
          go_wp2_with fail
          go_meet
          exact ⟨_, _, rfl, rfl, A4, RB, z4, z5, sB⟩
      · simp only [List.getElem?_toArray, List.getElem?_cons_succ, List.getElem?_cons_zero, Option.some.injEq] at ho; subst ho
        go_simp
        have s32 : Below w0.heap.size w0 (u26w.alloc (.cells #[.pointer none] 92)) := s26.alloc s26.size _
        have q32 : Blk (u26w.alloc (.cells #[.pointer none] 92)) u26w.heap.size 92 #[.pointer none] := Blk.new u26w _ _
        have t5_32 := Shp.tn_on q26 (below_alloc_ u26w (.cells #[.pointer none] 92))
        have ne4_5 : u26w.heap.size ≠ wd.heap.size := Nat.ne_of_gt (Shp.tn_lt q26)
        refine hK.out _ _ s32 (fun _ => ?_)
        clear hK K
        try simp only [Act.put, List.setIfInBounds_toArray, List.set_cons_zero, List.set_cons_succ]
        obtain ⟨u32w, hu32w⟩ : ∃ V, u26w.alloc (.cells #[.pointer none] 92) = V := ⟨_, rfl⟩
        rw [hu32w] at s32 q32 t5_32
        rw [hu32w]
        clear hu32w
        refine nextS 1 (by kernel_rfl) (by rfl) (fun o ho K hK => ?_)
        simp only [List.getElem?_toArray, List.getElem?_cons_succ, List.getElem?_cons_zero, Option.some.injEq] at ho; subst ho
        go_simp
        (go_at_call 44; (with_reducible refine (top_any g _).mono ?_); rintro e u33x ⟨rfl, rfl⟩)
        refine hK.out _ _ s32 (fun _ => ?_)
        clear hK K
        try simp only [Act.put, List.setIfInBounds_toArray, List.set_cons_zero, List.set_cons_succ]
        refine nextS 3 (by kernel_rfl) (by rfl) (fun o ho K hK => ?_)
        simp only [List.getElem?_toArray, List.getElem?_cons_succ, List.getElem?_cons_zero, Option.some.injEq] at ho; subst ho
        go_simp
        (go_at_call 41; (with_reducible refine (CB.out _).mono ?_); rintro e u34w ⟨rfl, b34⟩)
        have s34 : Below w0.heap.size w0 u34w := below_up s32 s32.size b34
        have t5_34 := Shp.tn_on t5_32 b34
        have t4_34 := Blk.on q32 b34
        refine hK.out _ _ s34 (fun _ => ?_)
        clear hK K
        try simp only [Act.put, List.setIfInBounds_toArray, List.set_cons_zero, List.set_cons_succ]
        have hc4 := t4_34.cell
        have hf4 := t4_34.free
        have B4 : Blk (u34w.setCell ⟨u26w.heap.size, 0, none⟩ (.pointer (some ⟨g, 0, none⟩))) (u26w.heap.size) 92 #[(.pointer (some ⟨g, 0, none⟩))] := t4_34.set_ _
        have t6 : Shp.tn 25 (u34w.setCell ⟨u26w.heap.size, 0, none⟩ (.pointer (some ⟨g, 0, none⟩))) (wd.heap.size) = true := (Shp.tn_to (Below.heap_setCell _ _ _ _ (Ne.symm ne4_5))).trans t5_34
        refine nextS 6 (by kernel_rfl) (by rfl) (fun o ho K hK => ?_)
        simp only [List.getElem?_toArray, List.getElem?_cons_succ, List.getElem?_cons_zero, Option.some.injEq] at ho; subst ho
        go_simp
        have sA : Below w0.heap.size w0 (u34w.setCell ⟨u26w.heap.size, 0, none⟩ (.pointer (some ⟨g, 0, none⟩))) := s34.setCell s26.size _
        refine hK.out _ _ sA (fun _ => ?_)
        clear hK K
        try simp only [Act.put, List.setIfInBounds_toArray, List.set_cons_zero, List.set_cons_succ]
        refine nextS 7 (by kernel_rfl) (by rfl) (fun o ho K hK => ?_)
        simp only [List.getElem?_toArray, List.getElem?_cons_succ, List.getElem?_cons_zero, Option.some.injEq] at ho; subst ho
        go_simp
        have sB : Below w0.heap.size w0 ((u34w.setCell ⟨u26w.heap.size, 0, none⟩ (.pointer (some ⟨g, 0, none⟩))).setRow (wd.heap.size) (kS.v k)) := below_setRow sA sd.size _
        refine hK.out _ _ sB (fun _ => ?_)
        clear hK K
        try simp only [Act.put, List.setIfInBounds_toArray, List.set_cons_zero, List.set_cons_succ]
        refine wpAnyH_done (by kernel_rfl) ?_ _
        refine NoPanic.normal ?_
        have RB := Shp.rd_set (S := kS) (u34w.setCell ⟨u26w.heap.size, 0, none⟩ (.pointer (some ⟨g, 0, none⟩))) (wd.heap.size) k t6
        have A4 : Blk ((u34w.setCell ⟨u26w.heap.size, 0, none⟩ (.pointer (some ⟨g, 0, none⟩))).setRow (wd.heap.size) (kS.v k)) (u26w.heap.size) 92 #[(.pointer (some ⟨g, 0, none⟩))] := ⟨(heap_setRow _ _ _ _ ne4_5).trans B4.out⟩
        have z4 : w0.heap.size ≤ u26w.heap.size := s26.size
        have z5 : w0.heap.size ≤ wd.heap.size := sd.size
        go_wp2_with fail
        go_meet
        exact ⟨_, _, rfl, rfl, A4, RB, z4, z5, sB⟩
  case rest =>
    obtain ⟨k7, k8, rfl, rfl, B7, R8, z7, z8, b1⟩ := hcut
    have f1 := Shp.rd_on f0 b1
    have hT1 := hT0.on b1
    have bw := below_up b0 b0.size b1
    clear f0 hT0
    gi_wp2
    refine ⟨trivial, ?_⟩
    refine (callsIn_wide.2 (CP.out _)).mono ?_
    rintro e w3 ⟨rfl, hw3⟩
    have b3 : Below wc.heap.size wc w3 := by rw [hw3]; exact ((below_alloc_ _ _).alloc (by simp) _).alloc (by simp; omega) _
    have hz3 : w3.heap.size = wc.heap.size + 3 := by rw [hw3]; simp
    have ht3 : w3.cell? ⟨wc.heap.size, 0, none⟩ = some (.pointer (some ⟨g, 0, none⟩)) := by
      rw [hw3]
      exact cell_kept_ (below_alloc_ _ _) (cell_kept_ (below_alloc_ _ _) (Blk.new wc _ _).cell)
    have hk3 : kS.rd w3 ⟨wc.heap.size + 1, 0, none⟩ = some k := by
      rw [hw3]
      exact Shp.rd_on (Shp.rd_new (S := kS) _ _ _ _ (by simp)) (below_alloc_ _ _)
    have hb3 : w3.cell? ⟨wc.heap.size + 2, 0, none⟩ = some (.int .i64 (d : Nat)) := by
      rw [hw3]
      have := (Blk.new ((wc.alloc (.cells #[.pointer (some ⟨g, 0, none⟩)] 31)).alloc (.cells (kS.v k) 30)) 3 #[.int .i64 (d : Nat)]).cell
      simpa using this
    clear hw3
    have hT3 := hT1.on b3
    have B73 := B7.on b3
    have R83 := Shp.rd_on R8 b3
    have l7 := B7.lt
    have l8 := Shp.rd_lt R8
    have n78 : k8 ≠ k7 := by
      intro e
      subst e
      obtain ⟨cs, hB, hs⟩ : ∃ cs, Blk wc k8 92 cs ∧ cs.size = 1 := ⟨_, B7, rfl⟩
      have h0 := kcell_at R8 (j := 1) (by omega)
      have h1 := B7.out
      simp [World.cell?, h1] at h0
    have hX : ∀ t, o = some t → ∀ q ∈ t.bl, q < w3.heap.size ∧ q ∉ [k7] := fun t e q hq => by
      obtain ⟨cs, hB⟩ := (hT3.nd t e).lt q hq
      refine ⟨hB.lt, fun c => ?_⟩
      simp only [List.mem_singleton] at c
      exact blk_ne hB B73 (by decide) c
    clear hT1 B7 R8 f1
    gi_wp2
    refine wpIn_rangeFunc_ownH rfl (by decide) (gf := 57) (lb := #[.pointer (some ⟨wc.heap.size + 1, 0, none⟩), .pointer (some ⟨wc.heap.size, 0, none⟩), .pointer (some ⟨wc.heap.size + 2, 0, none⟩)]) rfl trivial (enters_of Try.func57 (by kernel_rfl) rfl)
      (psd_stops 9 (by decide) (wc.heap.size + 1) wc.heap.size (wc.heap.size + 2) g k d hd o w3.heap.size [k7] w3 hk3 ht3 hb3 hT3 ⟨by omega, by simp; omega⟩ hX (Nat.le_refl _)) (fun h k => h.trans k) (fun W l o o' h1 h2 h3 _ => Kp.put W l o o' h1 h2 h3) (Below.refl _ _) (fun _ => rfl)
      (fun pre W => Ov w3.heap.size [k7] w3 W ∧ Blk W k7 92 #[.pointer (some (plc k ⟨g, 0, none⟩ (pre.map (·.1))))]) (fun _ _ _ => False)
      (fun s W W' row hs hg hr => ⟨hs.1.grown (Nat.le_refl _) hg fun r e => .inl (hr r e).1, (blk_own (t := 92) (fun s : List { t : Tk // t ∈ pth k d o } => #[.pointer (some (plc k ⟨g, 0, none⟩ (s.map (·.1))))])) s W W' row hs.2 hg hr⟩) (fun _ _ _ _ _ hs _ _ => hs) ⟨Ov.refl _ _ _, B73⟩
      (fun y a' W => a' = { tmps := #[.pointer (some ⟨g, 0, none⟩), .agg (kS.v k), .int .i64 (d : Nat), undef, .pointer (some ⟨w.heap.size, 0, none⟩), undef, .pointer none, .pointer (some ⟨k7, 0, none⟩), .pointer (some ⟨k8, 0, none⟩), .pointer (some ⟨y.1.ad, 0, none⟩), u10, u11, u12, u13, .pointer (some ⟨g, 0, none⟩), .agg (kS.v k), .int .i64 (d : Nat), .func (.func 57) #[] #[.pointer (some ⟨wc.heap.size + 1, 0, none⟩), .pointer (some ⟨wc.heap.size, 0, none⟩), .pointer (some ⟨wc.heap.size + 2, 0, none⟩)], .pointer (some ⟨y.1.ad, 0, none⟩), u19, u20, u21, u22, u23, u24, u25, u26, u27, u28, u29], defers := [] })
      (fun _ _ _ _ _ _ hs _ _ => hs) ?assign ?body ?done ?stop
    case assign =>
      rintro l pre y W K hI hK
      gi_wp2
      exact hK _ _ (KeepsFrom.refl _ _) (Kp.refl _ _ _) hI rfl
    case body =>
      rintro l pre y a' W hl ⟨r, hr⟩ ⟨hO, hB⟩ rfl hlt
      obtain ⟨m1, m2, m3, t, m4, m5⟩ := hT3.mem y.2
      have hbl : ∀ q ∈ y.1.bl, q < w3.heap.size ∧ q ∉ [k7] := fun q hq => hX t m4 q (m5 q hq)
      have hN := hO.nd m1 hbl
      have c0 := hN.nf.bit
      have c1 : kS.rd W ⟨k8, 0, none⟩ = some k := (Shp.rd_to (hO.block k8 (by omega) (by simpa using n78))).trans R83
      have hc := hB.cell
      have hf := hB.free
      have l1 := Shp.rd_lt c1
      have l0 := hN.nf.lt
      have s0 := D.sd_le k y.1.bit
      have C1 := Lib.hid (fun w => CS.out y.1.bit (by omega) w)
      have HB := Lib.hid hB
      have HO := Lib.hid hO
      have hmix : Try.prog.follows .mixedOrders = true := by kernel_rfl
      obtain ⟨sd, hsd⟩ : ∃ sd, D.sd k y.1.bit = sd := ⟨_, rfl⟩
      rw [hsd] at C1 s0
      have HSD := Lib.hid hsd
      have s1 : (0 : Int) ≤ (sd : Int) := by omega
      have s2 : (sd : Int) < 2 := by omega
      clear hN hB hsd m1 m2 m3 m4 m5 hX
      gi_wp2
      have sw : Below W.heap.size W W.drew := (Below.refl _ _).drew
      have sv : Ov W.heap.size [k7] W W.drew := (Ov.refl _ _ _).on (Nat.le_refl _) sw
      have h8 : k8 ∉ [k7] := by simpa using n78
      have hy7 := (hbl y.1.ad y.1.ad_mem).2
      refine region_round (S := fun V => Ov W.heap.size [k7] W V) (R := fun _ w' => ∃ w4, Below W.heap.size W w4 ∧ w' = w4.setCell ⟨k7, 0, none⟩ (.pointer (some ⟨y.1.ad, 1 + sd, none⟩))) hmix (by kernel_rfl) sv (fun sd0 => ?_) ?_
      refine takeS 0 (some 19) ?vb0 (by kernel_rfl) (by kernel_rfl) (by kernel_rfl) (by kernel_rfl) (fun _ _ _ h => h) (by rfl) ?hyb0 sd0 ?restb0
      case hyb0 => (intro o ho W hW; simp only [List.getElem?_toArray, List.getElem?_cons_succ, List.getElem?_cons_zero, Option.some.injEq] at ho; subst ho; (try dsimp only at hW); skip; go_simp; try rfl)
      try simp only [Act.put, List.setIfInBounds_toArray, List.set_cons_zero, List.set_cons_succ]
      refine takeS 1 (some 20) ?vb1 (by kernel_rfl) (by kernel_rfl) (by kernel_rfl) (by kernel_rfl) (fun _ _ _ h => h) (by rfl) ?hyb1 sd0 ?restb1
      case hyb1 => (intro o ho W hW; simp only [List.getElem?_toArray, List.getElem?_cons_succ, List.getElem?_cons_zero, Option.some.injEq] at ho; subst ho; (try dsimp only at hW); have g1 := (Shp.rd_to (hW.block k8 l1 h8)).trans c1; go_simp; try rfl)
      try simp only [Act.put, List.setIfInBounds_toArray, List.set_cons_zero, List.set_cons_succ]
      refine takeS 2 (some 21) ?vb2 (by kernel_rfl) (by kernel_rfl) (by kernel_rfl) (by kernel_rfl) (fun _ _ _ h => h) (by rfl) ?hyb2 sd0 ?restb2
      case hyb2 => (intro o ho W hW; simp only [List.getElem?_toArray, List.getElem?_cons_succ, List.getElem?_cons_zero, Option.some.injEq] at ho; subst ho; (try dsimp only at hW); skip; go_simp; try rfl)
      try simp only [Act.put, List.setIfInBounds_toArray, List.set_cons_zero, List.set_cons_succ]
      refine takeS 3 (some 22) ?vb3 (by kernel_rfl) (by kernel_rfl) (by kernel_rfl) (by kernel_rfl) (fun _ _ _ h => h) (by rfl) ?hyb3 sd0 ?restb3
      case hyb3 => (intro o ho W hW; simp only [List.getElem?_toArray, List.getElem?_cons_succ, List.getElem?_cons_zero, Option.some.injEq] at ho; subst ho; (try dsimp only at hW); skip; go_simp; try rfl)
      try simp only [Act.put, List.setIfInBounds_toArray, List.set_cons_zero, List.set_cons_succ]
      refine takeS 4 (some 23) ?vb4 (by kernel_rfl) (by kernel_rfl) (by kernel_rfl) (by kernel_rfl) (fun _ _ _ h => h) (by rfl) ?hyb4 sd0 ?restb4
      case hyb4 => (intro o ho W hW; simp only [List.getElem?_toArray, List.getElem?_cons_succ, List.getElem?_cons_zero, Option.some.injEq] at ho; subst ho; (try dsimp only at hW); skip; go_simp; try rfl)
      try simp only [Act.put, List.setIfInBounds_toArray, List.set_cons_zero, List.set_cons_succ]
      refine takeS 5 (some 24) ?vb5 (by kernel_rfl) (by kernel_rfl) (by kernel_rfl) (by kernel_rfl) (fun _ _ _ h => h) (by rfl) ?hyb5 sd0 ?restb5
      case hyb5 => (intro o ho W hW; simp only [List.getElem?_toArray, List.getElem?_cons_succ, List.getElem?_cons_zero, Option.some.injEq] at ho; subst ho; (try dsimp only at hW); have g2 := (World.cell?_of_block (hW.block y.1.ad l0 hy7)).trans c0; go_simp; try rfl)
      try simp only [Act.put, List.setIfInBounds_toArray, List.set_cons_zero, List.set_cons_succ]
      refine takeS 7 (some 26) ?vb7 (by kernel_rfl) (by kernel_rfl) (by kernel_rfl) (by kernel_rfl) (fun _ _ _ h => h) (by rfl) ?hyb7 sd0 ?restb7
      case hyb7 => (intro o ho W hW; simp only [List.getElem?_toArray, List.getElem?_cons_succ, List.getElem?_cons_zero, Option.some.injEq] at ho; subst ho; (try dsimp only at hW); skip; go_simp; try rfl)
      try simp only [Act.put, List.setIfInBounds_toArray, List.set_cons_zero, List.set_cons_succ]
      refine takeS 8 (some 27) ?vb8 (by kernel_rfl) (by kernel_rfl) (by kernel_rfl) (by kernel_rfl) (fun _ _ _ h => h) (by rfl) ?hyb8 sd0 ?restb8
      case hyb8 => (intro o ho W hW; simp only [List.getElem?_toArray, List.getElem?_cons_succ, List.getElem?_cons_zero, Option.some.injEq] at ho; subst ho; (try dsimp only at hW); skip; go_simp; try rfl)
      try simp only [Act.put, List.setIfInBounds_toArray, List.set_cons_zero, List.set_cons_succ]
      refine nextS 6 (by kernel_rfl) (by rfl) (fun o ho K hK => ?_)
      simp only [List.getElem?_toArray, List.getElem?_cons_succ, List.getElem?_cons_zero, Option.some.injEq] at ho; subst ho
      go_simp
      (go_at_call 42; (with_reducible refine (C1.out _).mono ?_); rintro e w4 ⟨rfl, b4⟩)
      have s4 : Below W.heap.size W w4 := below_up sw sw.size b4
      have s5 := sv.on (Nat.le_refl _) b4
      refine hK.out _ _ s5 (fun _ => ?_)
      clear hK K
      try simp only [Act.put, List.setIfInBounds_toArray, List.set_cons_zero, List.set_cons_succ]
      refine takeS 9 (some 28) ?vb9 (by kernel_rfl) (by kernel_rfl) (by kernel_rfl) (by kernel_rfl) (fun _ _ _ h => h) (by rfl) ?hyb9 s5 ?restb9
      case hyb9 => (intro o ho W hW; simp only [List.getElem?_toArray, List.getElem?_cons_succ, List.getElem?_cons_zero, Option.some.injEq] at ho; subst ho; (try dsimp only at hW); skip; go_simp; try rfl)
      try simp only [Act.put, List.setIfInBounds_toArray, List.set_cons_zero, List.set_cons_succ]
      have B4 := HB.out.on s4
      have hc4 := B4.cell
      have hf4 := B4.free
      refine nextS 10 (by kernel_rfl) (by rfl) (fun o ho K hK => ?_)
      simp only [List.getElem?_toArray, List.getElem?_cons_succ, List.getElem?_cons_zero, Option.some.injEq] at ho; subst ho
      go_simp
      have s6 := s5.set (a := ⟨k7, 0, none⟩) (by simp) (.pointer (some ⟨y.1.ad, 1 + sd, none⟩))
      refine hK.out _ _ s6 (fun _ => ?_)
      clear hK K
      try simp only [Act.put, List.setIfInBounds_toArray, List.set_cons_zero, List.set_cons_succ]
      refine wpAnyH_done (by kernel_rfl) ?_ _
      exact ⟨w4, s4, rfl⟩
      rintro a' w' ⟨w4, b4, rfl⟩
      have hO4 := HO.out.on (Nat.le_refl _) b4
      have hB4 := HB.out.on b4
      refine ⟨?_, ?_, ?_, ?_⟩
      · exact (((KeepsOthers.of_grownBy (grown_none b4) (fun j o e h => by cases e)).trans (KeepsOthers.setCell _ _ _))).from _
      · exact (Kp.below b4 hO.size).trans (Kp.set _ _ _ _ (by simp) hB4 (by decide))
      · exact hO4.set (by simp) _
      · rw [List.map_append, List.map_cons, List.map_nil, plc_app, HSD.out]
        exact hB4.set_ _
    case done =>
      rintro D0 ys W hD hp ⟨hO, hB⟩ hK
      have hc := hB.cell
      gi_wp2
      refine ⟨by simp, .inl ⟨_, _, rfl, run_takeDeferred hK, ?_⟩⟩
      refine ⟨_, results_tmp rfl _ _ _, by rw [← hp]; rfl, ?_⟩
      exact (below_up bw bw.size b3).trans ((hO.put hD _).below (by have := b3.size; have := bw.size; omega) (fun x hx => by simp at hx; omega))
    case stop =>
      rintro D0 c pre W _ _ h _
      exact h.elim
set_option maxHeartbeats 16000000 in
theorem place_nil (k : D.Ky) (d : Nat) (hd : d ≤ 200) (w : World) : Calls Try.prog 35 #[.pointer none, .agg (kS.v k), .int .i64 (d : Nat)] w fun e w' => ∃ kt : Nat, e = .returned (.pointer (some ⟨kt, 0, none⟩)) ∧ w.heap.size ≤ kt ∧ Blk w' kt 73 #[.pointer none] ∧ Below w.heap.size w w' := by
  have CB := Lib.hid (fun w => kbytes_any k w)
  have CP := Lib.hid (fun w => passed_any none k (d : Nat) w)
  have CS := Lib.hid (fun i (hi : i < 200) w => side_any k i hi w)
  obtain ⟨w0, hw0⟩ : ∃ w0, w.alloc (.cells (kS.v k) 30) = w0 := ⟨_, rfl⟩
  have f0 : kS.rd w0 ⟨w.heap.size, 0, none⟩ = some k := by rw [← hw0]; exact Shp.rd_new _ _ _ _ rfl
  have b0 : Below w.heap.size w w0 := by rw [← hw0]; exact below_alloc_ _ _
  have hz0 : w.heap.size < w0.heap.size := by rw [← hw0]; simp
  refine (callsIn_wide (n := 10)).1 ?_
  refine callsIn_of_wp_marks Try.func35 rfl trivial ?_ rfl
  simp only [Try.ntmps35, List.size_toArray, List.length_cons, List.length_nil, Nat.reduceAdd, Nat.reduceSub, Array.replicate_succ, Array.replicate_zero, List.push_toArray, List.append_toArray, List.nil_append, List.cons_append]
  gi_wp2
  try rw [hw0]
  clear hw0
  refine wpIn_wide.2 ?_
  go_cut [7, 8] from 10 (fun s7 s8 wx => ∃ k7 k8 kt : Nat, s7 = .pointer (some ⟨k7, 0, none⟩) ∧ s8 = .pointer (some ⟨k8, 0, none⟩) ∧ Blk wx k7 92 #[.pointer (some ⟨kt, 0, none⟩)] ∧ kS.rd wx ⟨k8, 0, none⟩ = some k ∧ w0.heap.size ≤ k7 ∧ w0.heap.size ≤ k8 ∧ Blk wx kt 73 #[.pointer none] ∧ w0.heap.size ≤ kt ∧ Below w0.heap.size w0 wx)
  case first =>
    refine wp_region_noPanic ?_
    refine wp_region_held_drew (S := fun W => Below w0.heap.size w0 W) (by kernel_rfl) (Below.refl _ _).drew (fun _ => ?_)
    obtain ⟨wd, hwd⟩ : ∃ wd, w0.drew = wd := ⟨_, rfl⟩
    have sd : Below w0.heap.size w0 wd := by rw [← hwd]; exact (Below.refl _ _).drew
    rw [hwd]
    clear hwd
    refine takeS 0 (some 10) ?vr0 (by kernel_rfl) (by kernel_rfl) (by kernel_rfl) (by kernel_rfl) (fun _ _ _ h => h) (by rfl) ?hyr0 sd ?restr0
    case hyr0 => (intro o ho W hW; simp only [List.getElem?_toArray, List.getElem?_cons_succ, List.getElem?_cons_zero, Option.some.injEq] at ho; subst ho; (try dsimp only at hW); skip; go_simp; try rfl)
    try simp only [Act.put, List.setIfInBounds_toArray, List.set_cons_zero, List.set_cons_succ]
    refine takeS 2 (some 12) ?vr2 (by kernel_rfl) (by kernel_rfl) (by kernel_rfl) (by kernel_rfl) (fun _ _ _ h => h) (by rfl) ?hyr2 sd ?restr2
    case hyr2 => (intro o ho W hW; simp only [List.getElem?_toArray, List.getElem?_cons_succ, List.getElem?_cons_zero, Option.some.injEq] at ho; subst ho; (try dsimp only at hW); have g0 := Shp.rd_on f0 hW; go_simp; try rfl)
    try simp only [Act.put, List.setIfInBounds_toArray, List.set_cons_zero, List.set_cons_succ]
    refine fork3 1 4 5 (by kernel_rfl) (by rfl) (by rfl) (by rfl) (fun o ho K hK => ?_) (fun o ho K hK => ?_) (fun o ho K hK => ?_)
    · simp only [List.getElem?_toArray, List.getElem?_cons_succ, List.getElem?_cons_zero, Option.some.injEq] at ho; subst ho
      go_simp
      (go_at_call 44; (with_reducible refine (top_nil _).mono ?_); rintro e u1w ⟨rfl, hu1w⟩)
      have b1 : Below wd.heap.size wd u1w := by rw [hu1w]; exact below_alloc_ _ _
      have q1 : Blk u1w wd.heap.size 73 #[.pointer none] := by rw [hu1w]; exact Blk.new _ _ _
      have s1 : Below w0.heap.size w0 u1w := below_up sd sd.size b1
      refine hK.out _ _ s1 (fun _ => ?_)
      clear hK K
      try simp only [Act.put, List.setIfInBounds_toArray, List.set_cons_zero, List.set_cons_succ]
      clear hu1w
      refine fork3 3 4 5 (by kernel_rfl) (by rfl) (by rfl) (by rfl) (fun o ho K hK => ?_) (fun o ho K hK => ?_) (fun o ho K hK => ?_)
      · simp only [List.getElem?_toArray, List.getElem?_cons_succ, List.getElem?_cons_zero, Option.some.injEq] at ho; subst ho
        go_simp
        (go_at_call 41; (with_reducible refine (CB.out _).mono ?_); rintro e u2w ⟨rfl, b2⟩)
        have s2 : Below w0.heap.size w0 u2w := below_up s1 s1.size b2
        have t1_2 := Blk.on q1 b2
        refine hK.out _ _ s2 (fun _ => ?_)
        clear hK K
        try simp only [Act.put, List.setIfInBounds_toArray, List.set_cons_zero, List.set_cons_succ]
        refine forkS 4 5 (by kernel_rfl) (by rfl) (by rfl) (fun o ho K hK => ?_) (fun o ho K hK => ?_)
        · simp only [List.getElem?_toArray, List.getElem?_cons_succ, List.getElem?_cons_zero, Option.some.injEq] at ho; subst ho
          go_simp
          have s3 : Below w0.heap.size w0 (u2w.alloc (.cells #[.pointer none] 92)) := s2.alloc s2.size _
          have q3 : Blk (u2w.alloc (.cells #[.pointer none] 92)) u2w.heap.size 92 #[.pointer none] := Blk.new u2w _ _
          have t1_3 := Blk.on t1_2 (below_alloc_ u2w (.cells #[.pointer none] 92))
          have ne1_4 : wd.heap.size ≠ u2w.heap.size := Nat.ne_of_lt (Blk.lt t1_2)
          refine hK.out _ _ s3 (fun _ => ?_)
          clear hK K
          try simp only [Act.put, List.setIfInBounds_toArray, List.set_cons_zero, List.set_cons_succ]
          obtain ⟨u3w, hu3w⟩ : ∃ V, u2w.alloc (.cells #[.pointer none] 92) = V := ⟨_, rfl⟩
          rw [hu3w] at s3 q3 t1_3
          rw [hu3w]
          clear hu3w
          refine nextS 5 (by kernel_rfl) (by rfl) (fun o ho K hK => ?_)
          simp only [List.getElem?_toArray, List.getElem?_cons_succ, List.getElem?_cons_zero, Option.some.injEq] at ho; subst ho
          go_simp
          have s4 : Below w0.heap.size w0 (u3w.alloc (.cells #[.int .u8 0, .int .u8 0, .int .u8 0, .int .u8 0, .int .u8 0, .int .u8 0, .int .u8 0, .int .u8 0, .int .u8 0, .int .u8 0, .int .u8 0, .int .u8 0, .int .u8 0, .int .u8 0, .int .u8 0, .int .u8 0, .int .u8 0, .int .u8 0, .int .u8 0, .int .u8 0, .int .u8 0, .int .u8 0, .int .u8 0, .int .u8 0, .int .u8 0] 101)) := s3.alloc s3.size _
          have q4 : Shp.tn 25 (u3w.alloc (.cells #[.int .u8 0, .int .u8 0, .int .u8 0, .int .u8 0, .int .u8 0, .int .u8 0, .int .u8 0, .int .u8 0, .int .u8 0, .int .u8 0, .int .u8 0, .int .u8 0, .int .u8 0, .int .u8 0, .int .u8 0, .int .u8 0, .int .u8 0, .int .u8 0, .int .u8 0, .int .u8 0, .int .u8 0, .int .u8 0, .int .u8 0, .int .u8 0, .int .u8 0] 101)) u3w.heap.size = true := Shp.tn_of (Blk.new u3w _ _) rfl
          have t1_4 := Blk.on t1_3 (below_alloc_ u3w (.cells #[.int .u8 0, .int .u8 0, .int .u8 0, .int .u8 0, .int .u8 0, .int .u8 0, .int .u8 0, .int .u8 0, .int .u8 0, .int .u8 0, .int .u8 0, .int .u8 0, .int .u8 0, .int .u8 0, .int .u8 0, .int .u8 0, .int .u8 0, .int .u8 0, .int .u8 0, .int .u8 0, .int .u8 0, .int .u8 0, .int .u8 0, .int .u8 0, .int .u8 0] 101))
          have ne1_5 : wd.heap.size ≠ u3w.heap.size := Nat.ne_of_lt (Blk.lt t1_3)
          have t4_4 := Blk.on q3 (below_alloc_ u3w (.cells #[.int .u8 0, .int .u8 0, .int .u8 0, .int .u8 0, .int .u8 0, .int .u8 0, .int .u8 0, .int .u8 0, .int .u8 0, .int .u8 0, .int .u8 0, .int .u8 0, .int .u8 0, .int .u8 0, .int .u8 0, .int .u8 0, .int .u8 0, .int .u8 0, .int .u8 0, .int .u8 0, .int .u8 0, .int .u8 0, .int .u8 0, .int .u8 0, .int .u8 0] 101))
          have ne4_5 : u2w.heap.size ≠ u3w.heap.size := Nat.ne_of_lt (Blk.lt q3)
          refine hK.out _ _ s4 (fun _ => ?_)
          clear hK K
          try simp only [Act.put, List.setIfInBounds_toArray, List.set_cons_zero, List.set_cons_succ]
          obtain ⟨u4w, hu4w⟩ : ∃ V, u3w.alloc (.cells #[.int .u8 0, .int .u8 0, .int .u8 0, .int .u8 0, .int .u8 0, .int .u8 0, .int .u8 0, .int .u8 0, .int .u8 0, .int .u8 0, .int .u8 0, .int .u8 0, .int .u8 0, .int .u8 0, .int .u8 0, .int .u8 0, .int .u8 0, .int .u8 0, .int .u8 0, .int .u8 0, .int .u8 0, .int .u8 0, .int .u8 0, .int .u8 0, .int .u8 0] 101) = V := ⟨_, rfl⟩
          rw [hu4w] at s4 q4 t1_4 t4_4
          rw [hu4w]
          clear hu4w
          have hc4 := t4_4.cell
          have hf4 := t4_4.free
          have B4 : Blk (u4w.setCell ⟨u2w.heap.size, 0, none⟩ (.pointer (some ⟨wd.heap.size, 0, none⟩))) (u2w.heap.size) 92 #[(.pointer (some ⟨wd.heap.size, 0, none⟩))] := t4_4.set_ _
          have t6 : Shp.tn 25 (u4w.setCell ⟨u2w.heap.size, 0, none⟩ (.pointer (some ⟨wd.heap.size, 0, none⟩))) (u3w.heap.size) = true := (Shp.tn_to (Below.heap_setCell _ _ _ _ (Ne.symm ne4_5))).trans q4
          refine nextS 6 (by kernel_rfl) (by rfl) (fun o ho K hK => ?_)
          simp only [List.getElem?_toArray, List.getElem?_cons_succ, List.getElem?_cons_zero, Option.some.injEq] at ho; subst ho
          go_simp
          have sA : Below w0.heap.size w0 (u4w.setCell ⟨u2w.heap.size, 0, none⟩ (.pointer (some ⟨wd.heap.size, 0, none⟩))) := s4.setCell s2.size _
          refine hK.out _ _ sA (fun _ => ?_)
          clear hK K
          try simp only [Act.put, List.setIfInBounds_toArray, List.set_cons_zero, List.set_cons_succ]
          refine nextS 7 (by kernel_rfl) (by rfl) (fun o ho K hK => ?_)
          simp only [List.getElem?_toArray, List.getElem?_cons_succ, List.getElem?_cons_zero, Option.some.injEq] at ho; subst ho
          go_simp
          have sB : Below w0.heap.size w0 ((u4w.setCell ⟨u2w.heap.size, 0, none⟩ (.pointer (some ⟨wd.heap.size, 0, none⟩))).setRow (u3w.heap.size) (kS.v k)) := below_setRow sA s3.size _
          refine hK.out _ _ sB (fun _ => ?_)
          clear hK K
          try simp only [Act.put, List.setIfInBounds_toArray, List.set_cons_zero, List.set_cons_succ]
          refine wpAnyH_done (by kernel_rfl) ?_ _
          refine NoPanic.normal ?_
          have RB := Shp.rd_set (S := kS) (u4w.setCell ⟨u2w.heap.size, 0, none⟩ (.pointer (some ⟨wd.heap.size, 0, none⟩))) (u3w.heap.size) k t6
          have A4 : Blk ((u4w.setCell ⟨u2w.heap.size, 0, none⟩ (.pointer (some ⟨wd.heap.size, 0, none⟩))).setRow (u3w.heap.size) (kS.v k)) (u2w.heap.size) 92 #[(.pointer (some ⟨wd.heap.size, 0, none⟩))] := ⟨(heap_setRow _ _ _ _ ne4_5).trans B4.out⟩
          have z4 : w0.heap.size ≤ u2w.heap.size := s2.size
          have z5 : w0.heap.size ≤ u3w.heap.size := s3.size
          have A1 : Blk ((u4w.setCell ⟨u2w.heap.size, 0, none⟩ (.pointer (some ⟨wd.heap.size, 0, none⟩))).setRow (u3w.heap.size) (kS.v k)) (wd.heap.size) 73 #[.pointer none] := ⟨(heap_setRow _ _ _ _ ne1_5).trans ((Below.heap_setCell _ _ _ _ ne1_4).trans (t1_4).out)⟩
          have z1 : w0.heap.size ≤ wd.heap.size := sd.size
          go_wp2_with fail
          go_meet
          exact ⟨_, _, _, rfl, rfl, A4, RB, z4, z5, A1, z1, sB⟩
        · simp only [List.getElem?_toArray, List.getElem?_cons_succ, List.getElem?_cons_zero, Option.some.injEq] at ho; subst ho
          go_simp
          have s5 : Below w0.heap.size w0 (u2w.alloc (.cells #[.int .u8 0, .int .u8 0, .int .u8 0, .int .u8 0, .int .u8 0, .int .u8 0, .int .u8 0, .int .u8 0, .int .u8 0, .int .u8 0, .int .u8 0, .int .u8 0, .int .u8 0, .int .u8 0, .int .u8 0, .int .u8 0, .int .u8 0, .int .u8 0, .int .u8 0, .int .u8 0, .int .u8 0, .int .u8 0, .int .u8 0, .int .u8 0, .int .u8 0] 101)) := s2.alloc s2.size _
          have q5 : Shp.tn 25 (u2w.alloc (.cells #[.int .u8 0, .int .u8 0, .int .u8 0, .int .u8 0, .int .u8 0, .int .u8 0, .int .u8 0, .int .u8 0, .int .u8 0, .int .u8 0, .int .u8 0, .int .u8 0, .int .u8 0, .int .u8 0, .int .u8 0, .int .u8 0, .int .u8 0, .int .u8 0, .int .u8 0, .int .u8 0, .int .u8 0, .int .u8 0, .int .u8 0, .int .u8 0, .int .u8 0] 101)) u2w.heap.size = true := Shp.tn_of (Blk.new u2w _ _) rfl
          have t1_5 := Blk.on t1_2 (below_alloc_ u2w (.cells #[.int .u8 0, .int .u8 0, .int .u8 0, .int .u8 0, .int .u8 0, .int .u8 0, .int .u8 0, .int .u8 0, .int .u8 0, .int .u8 0, .int .u8 0, .int .u8 0, .int .u8 0, .int .u8 0, .int .u8 0, .int .u8 0, .int .u8 0, .int .u8 0, .int .u8 0, .int .u8 0, .int .u8 0, .int .u8 0, .int .u8 0, .int .u8 0, .int .u8 0] 101))
          have ne1_5 : wd.heap.size ≠ u2w.heap.size := Nat.ne_of_lt (Blk.lt t1_2)
          refine hK.out _ _ s5 (fun _ => ?_)
          clear hK K
          try simp only [Act.put, List.setIfInBounds_toArray, List.set_cons_zero, List.set_cons_succ]
          obtain ⟨u5w, hu5w⟩ : ∃ V, u2w.alloc (.cells #[.int .u8 0, .int .u8 0, .int .u8 0, .int .u8 0, .int .u8 0, .int .u8 0, .int .u8 0, .int .u8 0, .int .u8 0, .int .u8 0, .int .u8 0, .int .u8 0, .int .u8 0, .int .u8 0, .int .u8 0, .int .u8 0, .int .u8 0, .int .u8 0, .int .u8 0, .int .u8 0, .int .u8 0, .int .u8 0, .int .u8 0, .int .u8 0, .int .u8 0] 101) = V := ⟨_, rfl⟩
          rw [hu5w] at s5 q5 t1_5
          rw [hu5w]
          clear hu5w
          refine nextS 4 (by kernel_rfl) (by rfl) (fun o ho K hK => ?_)
          simp only [List.getElem?_toArray, List.getElem?_cons_succ, List.getElem?_cons_zero, Option.some.injEq] at ho; subst ho
          go_simp
          have s6 : Below w0.heap.size w0 (u5w.alloc (.cells #[.pointer none] 92)) := s5.alloc s5.size _
          have q6 : Blk (u5w.alloc (.cells #[.pointer none] 92)) u5w.heap.size 92 #[.pointer none] := Blk.new u5w _ _
          have t1_6 := Blk.on t1_5 (below_alloc_ u5w (.cells #[.pointer none] 92))
          have ne1_4 : wd.heap.size ≠ u5w.heap.size := Nat.ne_of_lt (Blk.lt t1_5)
          have t5_6 := Shp.tn_on q5 (below_alloc_ u5w (.cells #[.pointer none] 92))
          have ne4_5 : u5w.heap.size ≠ u2w.heap.size := Nat.ne_of_gt (Shp.tn_lt q5)
          refine hK.out _ _ s6 (fun _ => ?_)
          clear hK K
          try simp only [Act.put, List.setIfInBounds_toArray, List.set_cons_zero, List.set_cons_succ]
          obtain ⟨u6w, hu6w⟩ : ∃ V, u5w.alloc (.cells #[.pointer none] 92) = V := ⟨_, rfl⟩
          rw [hu6w] at s6 q6 t1_6 t5_6
          rw [hu6w]
          clear hu6w
          have hc4 := q6.cell
          have hf4 := q6.free
          have B4 : Blk (u6w.setCell ⟨u5w.heap.size, 0, none⟩ (.pointer (some ⟨wd.heap.size, 0, none⟩))) (u5w.heap.size) 92 #[(.pointer (some ⟨wd.heap.size, 0, none⟩))] := q6.set_ _
          have t6 : Shp.tn 25 (u6w.setCell ⟨u5w.heap.size, 0, none⟩ (.pointer (some ⟨wd.heap.size, 0, none⟩))) (u2w.heap.size) = true := (Shp.tn_to (Below.heap_setCell _ _ _ _ (Ne.symm ne4_5))).trans t5_6
          refine nextS 6 (by kernel_rfl) (by rfl) (fun o ho K hK => ?_)
          simp only [List.getElem?_toArray, List.getElem?_cons_succ, List.getElem?_cons_zero, Option.some.injEq] at ho; subst ho
          go_simp
          have sA : Below w0.heap.size w0 (u6w.setCell ⟨u5w.heap.size, 0, none⟩ (.pointer (some ⟨wd.heap.size, 0, none⟩))) := s6.setCell s5.size _
          refine hK.out _ _ sA (fun _ => ?_)
          clear hK K
          try simp only [Act.put, List.setIfInBounds_toArray, List.set_cons_zero, List.set_cons_succ]
          refine nextS 7 (by kernel_rfl) (by rfl) (fun o ho K hK => ?_)
          simp only [List.getElem?_toArray, List.getElem?_cons_succ, List.getElem?_cons_zero, Option.some.injEq] at ho; subst ho
          go_simp
          have sB : Below w0.heap.size w0 ((u6w.setCell ⟨u5w.heap.size, 0, none⟩ (.pointer (some ⟨wd.heap.size, 0, none⟩))).setRow (u2w.heap.size) (kS.v k)) := below_setRow sA s2.size _
          refine hK.out _ _ sB (fun _ => ?_)
          clear hK K
          try simp only [Act.put, List.setIfInBounds_toArray, List.set_cons_zero, List.set_cons_succ]
          refine wpAnyH_done (by kernel_rfl) ?_ _
          refine NoPanic.normal ?_
          have RB := Shp.rd_set (S := kS) (u6w.setCell ⟨u5w.heap.size, 0, none⟩ (.pointer (some ⟨wd.heap.size, 0, none⟩))) (u2w.heap.size) k t6
          have A4 : Blk ((u6w.setCell ⟨u5w.heap.size, 0, none⟩ (.pointer (some ⟨wd.heap.size, 0, none⟩))).setRow (u2w.heap.size) (kS.v k)) (u5w.heap.size) 92 #[(.pointer (some ⟨wd.heap.size, 0, none⟩))] := ⟨(heap_setRow _ _ _ _ ne4_5).trans B4.out⟩
          have z4 : w0.heap.size ≤ u5w.heap.size := s5.size
          have z5 : w0.heap.size ≤ u2w.heap.size := s2.size
          have A1 : Blk ((u6w.setCell ⟨u5w.heap.size, 0, none⟩ (.pointer (some ⟨wd.heap.size, 0, none⟩))).setRow (u2w.heap.size) (kS.v k)) (wd.heap.size) 73 #[.pointer none] := ⟨(heap_setRow _ _ _ _ ne1_5).trans ((Below.heap_setCell _ _ _ _ ne1_4).trans (t1_6).out)⟩
          have z1 : w0.heap.size ≤ wd.heap.size := sd.size
          go_wp2_with fail
          go_meet
          exact ⟨_, _, _, rfl, rfl, A4, RB, z4, z5, A1, z1, sB⟩
      · simp only [List.getElem?_toArray, List.getElem?_cons_succ, List.getElem?_cons_zero, Option.some.injEq] at ho; subst ho
        go_simp
        have s7 : Below w0.heap.size w0 (u1w.alloc (.cells #[.pointer none] 92)) := s1.alloc s1.size _
        have q7 : Blk (u1w.alloc (.cells #[.pointer none] 92)) u1w.heap.size 92 #[.pointer none] := Blk.new u1w _ _
        have t1_7 := Blk.on q1 (below_alloc_ u1w (.cells #[.pointer none] 92))
        have ne1_4 : wd.heap.size ≠ u1w.heap.size := Nat.ne_of_lt (Blk.lt q1)
        refine hK.out _ _ s7 (fun _ => ?_)
        clear hK K
        try simp only [Act.put, List.setIfInBounds_toArray, List.set_cons_zero, List.set_cons_succ]
        obtain ⟨u7w, hu7w⟩ : ∃ V, u1w.alloc (.cells #[.pointer none] 92) = V := ⟨_, rfl⟩
        rw [hu7w] at s7 q7 t1_7
        rw [hu7w]
        clear hu7w
        refine forkS 3 5 (by kernel_rfl) (by rfl) (by rfl) (fun o ho K hK => ?_) (fun o ho K hK => ?_)
        · simp only [List.getElem?_toArray, List.getElem?_cons_succ, List.getElem?_cons_zero, Option.some.injEq] at ho; subst ho
          go_simp
          (go_at_call 41; (with_reducible refine (CB.out _).mono ?_); rintro e u8w ⟨rfl, b8⟩)
          have s8 : Below w0.heap.size w0 u8w := below_up s7 s7.size b8
          have t1_8 := Blk.on t1_7 b8
          have t4_8 := Blk.on q7 b8
          refine hK.out _ _ s8 (fun _ => ?_)
          clear hK K
          try simp only [Act.put, List.setIfInBounds_toArray, List.set_cons_zero, List.set_cons_succ]
          refine nextS 5 (by kernel_rfl) (by rfl) (fun o ho K hK => ?_)
          simp only [List.getElem?_toArray, List.getElem?_cons_succ, List.getElem?_cons_zero, Option.some.injEq] at ho; subst ho
          go_simp
          have s9 : Below w0.heap.size w0 (u8w.alloc (.cells #[.int .u8 0, .int .u8 0, .int .u8 0, .int .u8 0, .int .u8 0, .int .u8 0, .int .u8 0, .int .u8 0, .int .u8 0, .int .u8 0, .int .u8 0, .int .u8 0, .int .u8 0, .int .u8 0, .int .u8 0, .int .u8 0, .int .u8 0, .int .u8 0, .int .u8 0, .int .u8 0, .int .u8 0, .int .u8 0, .int .u8 0, .int .u8 0, .int .u8 0] 101)) := s8.alloc s8.size _
          have q9 : Shp.tn 25 (u8w.alloc (.cells #[.int .u8 0, .int .u8 0, .int .u8 0, .int .u8 0, .int .u8 0, .int .u8 0, .int .u8 0, .int .u8 0, .int .u8 0, .int .u8 0, .int .u8 0, .int .u8 0, .int .u8 0, .int .u8 0, .int .u8 0, .int .u8 0, .int .u8 0, .int .u8 0, .int .u8 0, .int .u8 0, .int .u8 0, .int .u8 0, .int .u8 0, .int .u8 0, .int .u8 0] 101)) u8w.heap.size = true := Shp.tn_of (Blk.new u8w _ _) rfl
          have t1_9 := Blk.on t1_8 (below_alloc_ u8w (.cells #[.int .u8 0, .int .u8 0, .int .u8 0, .int .u8 0, .int .u8 0, .int .u8 0, .int .u8 0, .int .u8 0, .int .u8 0, .int .u8 0, .int .u8 0, .int .u8 0, .int .u8 0, .int .u8 0, .int .u8 0, .int .u8 0, .int .u8 0, .int .u8 0, .int .u8 0, .int .u8 0, .int .u8 0, .int .u8 0, .int .u8 0, .int .u8 0, .int .u8 0] 101))
          have ne1_5 : wd.heap.size ≠ u8w.heap.size := Nat.ne_of_lt (Blk.lt t1_8)
          have t4_9 := Blk.on t4_8 (below_alloc_ u8w (.cells #[.int .u8 0, .int .u8 0, .int .u8 0, .int .u8 0, .int .u8 0, .int .u8 0, .int .u8 0, .int .u8 0, .int .u8 0, .int .u8 0, .int .u8 0, .int .u8 0, .int .u8 0, .int .u8 0, .int .u8 0, .int .u8 0, .int .u8 0, .int .u8 0, .int .u8 0, .int .u8 0, .int .u8 0, .int .u8 0, .int .u8 0, .int .u8 0, .int .u8 0] 101))
          have ne4_5 : u1w.heap.size ≠ u8w.heap.size := Nat.ne_of_lt (Blk.lt t4_8)
          refine hK.out _ _ s9 (fun _ => ?_)
          clear hK K
          try simp only [Act.put, List.setIfInBounds_toArray, List.set_cons_zero, List.set_cons_succ]
          obtain ⟨u9w, hu9w⟩ : ∃ V, u8w.alloc (.cells #[.int .u8 0, .int .u8 0, .int .u8 0, .int .u8 0, .int .u8 0, .int .u8 0, .int .u8 0, .int .u8 0, .int .u8 0, .int .u8 0, .int .u8 0, .int .u8 0, .int .u8 0, .int .u8 0, .int .u8 0, .int .u8 0, .int .u8 0, .int .u8 0, .int .u8 0, .int .u8 0, .int .u8 0, .int .u8 0, .int .u8 0, .int .u8 0, .int .u8 0] 101) = V := ⟨_, rfl⟩
          rw [hu9w] at s9 q9 t1_9 t4_9
          rw [hu9w]
          clear hu9w
          have hc4 := t4_9.cell
          have hf4 := t4_9.free
          have B4 : Blk (u9w.setCell ⟨u1w.heap.size, 0, none⟩ (.pointer (some ⟨wd.heap.size, 0, none⟩))) (u1w.heap.size) 92 #[(.pointer (some ⟨wd.heap.size, 0, none⟩))] := t4_9.set_ _
          have t6 : Shp.tn 25 (u9w.setCell ⟨u1w.heap.size, 0, none⟩ (.pointer (some ⟨wd.heap.size, 0, none⟩))) (u8w.heap.size) = true := (Shp.tn_to (Below.heap_setCell _ _ _ _ (Ne.symm ne4_5))).trans q9
          refine nextS 6 (by kernel_rfl) (by rfl) (fun o ho K hK => ?_)
          simp only [List.getElem?_toArray, List.getElem?_cons_succ, List.getElem?_cons_zero, Option.some.injEq] at ho; subst ho
          go_simp
          have sA : Below w0.heap.size w0 (u9w.setCell ⟨u1w.heap.size, 0, none⟩ (.pointer (some ⟨wd.heap.size, 0, none⟩))) := s9.setCell s1.size _
          refine hK.out _ _ sA (fun _ => ?_)
          clear hK K
          try simp only [Act.put, List.setIfInBounds_toArray, List.set_cons_zero, List.set_cons_succ]
          refine nextS 7 (by kernel_rfl) (by rfl) (fun o ho K hK => ?_)
          simp only [List.getElem?_toArray, List.getElem?_cons_succ, List.getElem?_cons_zero, Option.some.injEq] at ho; subst ho
          go_simp
          have sB : Below w0.heap.size w0 ((u9w.setCell ⟨u1w.heap.size, 0, none⟩ (.pointer (some ⟨wd.heap.size, 0, none⟩))).setRow (u8w.heap.size) (kS.v k)) := below_setRow sA s8.size _
          refine hK.out _ _ sB (fun _ => ?_)
          clear hK K
          try simp only [Act.put, List.setIfInBounds_toArray, List.set_cons_zero, List.set_cons_succ]
          refine wpAnyH_done (by kernel_rfl) ?_ _
          refine NoPanic.normal ?_
          have RB := Shp.rd_set (S := kS) (u9w.setCell ⟨u1w.heap.size, 0, none⟩ (.pointer (some ⟨wd.heap.size, 0, none⟩))) (u8w.heap.size) k t6
          have A4 : Blk ((u9w.setCell ⟨u1w.heap.size, 0, none⟩ (.pointer (some ⟨wd.heap.size, 0, none⟩))).setRow (u8w.heap.size) (kS.v k)) (u1w.heap.size) 92 #[(.pointer (some ⟨wd.heap.size, 0, none⟩))] := ⟨(heap_setRow _ _ _ _ ne4_5).trans B4.out⟩
          have z4 : w0.heap.size ≤ u1w.heap.size := s1.size
          have z5 : w0.heap.size ≤ u8w.heap.size := s8.size
          have A1 : Blk ((u9w.setCell ⟨u1w.heap.size, 0, none⟩ (.pointer (some ⟨wd.heap.size, 0, none⟩))).setRow (u8w.heap.size) (kS.v k)) (wd.heap.size) 73 #[.pointer none] := ⟨(heap_setRow _ _ _ _ ne1_5).trans ((Below.heap_setCell _ _ _ _ ne1_4).trans (t1_9).out)⟩
          have z1 : w0.heap.size ≤ wd.heap.size := sd.size
          go_wp2_with fail
          go_meet
          exact ⟨_, _, _, rfl, rfl, A4, RB, z4, z5, A1, z1, sB⟩
        · simp only [List.getElem?_toArray, List.getElem?_cons_succ, List.getElem?_cons_zero, Option.some.injEq] at ho; subst ho
          go_simp
          have s10 : Below w0.heap.size w0 (u7w.alloc (.cells #[.int .u8 0, .int .u8 0, .int .u8 0, .int .u8 0, .int .u8 0, .int .u8 0, .int .u8 0, .int .u8 0, .int .u8 0, .int .u8 0, .int .u8 0, .int .u8 0, .int .u8 0, .int .u8 0, .int .u8 0, .int .u8 0, .int .u8 0, .int .u8 0, .int .u8 0, .int .u8 0, .int .u8 0, .int .u8 0, .int .u8 0, .int .u8 0, .int .u8 0] 101)) := s7.alloc s7.size _
          have q10 : Shp.tn 25 (u7w.alloc (.cells #[.int .u8 0, .int .u8 0, .int .u8 0, .int .u8 0, .int .u8 0, .int .u8 0, .int .u8 0, .int .u8 0, .int .u8 0, .int .u8 0, .int .u8 0, .int .u8 0, .int .u8 0, .int .u8 0, .int .u8 0, .int .u8 0, .int .u8 0, .int .u8 0, .int .u8 0, .int .u8 0, .int .u8 0, .int .u8 0, .int .u8 0, .int .u8 0, .int .u8 0] 101)) u7w.heap.size = true := Shp.tn_of (Blk.new u7w _ _) rfl
          have t1_10 := Blk.on t1_7 (below_alloc_ u7w (.cells #[.int .u8 0, .int .u8 0, .int .u8 0, .int .u8 0, .int .u8 0, .int .u8 0, .int .u8 0, .int .u8 0, .int .u8 0, .int .u8 0, .int .u8 0, .int .u8 0, .int .u8 0, .int .u8 0, .int .u8 0, .int .u8 0, .int .u8 0, .int .u8 0, .int .u8 0, .int .u8 0, .int .u8 0, .int .u8 0, .int .u8 0, .int .u8 0, .int .u8 0] 101))
          have ne1_5 : wd.heap.size ≠ u7w.heap.size := Nat.ne_of_lt (Blk.lt t1_7)
          have t4_10 := Blk.on q7 (below_alloc_ u7w (.cells #[.int .u8 0, .int .u8 0, .int .u8 0, .int .u8 0, .int .u8 0, .int .u8 0, .int .u8 0, .int .u8 0, .int .u8 0, .int .u8 0, .int .u8 0, .int .u8 0, .int .u8 0, .int .u8 0, .int .u8 0, .int .u8 0, .int .u8 0, .int .u8 0, .int .u8 0, .int .u8 0, .int .u8 0, .int .u8 0, .int .u8 0, .int .u8 0, .int .u8 0] 101))
          have ne4_5 : u1w.heap.size ≠ u7w.heap.size := Nat.ne_of_lt (Blk.lt q7)
          refine hK.out _ _ s10 (fun _ => ?_)
          clear hK K
          try simp only [Act.put, List.setIfInBounds_toArray, List.set_cons_zero, List.set_cons_succ]
          obtain ⟨u10w, hu10w⟩ : ∃ V, u7w.alloc (.cells #[.int .u8 0, .int .u8 0, .int .u8 0, .int .u8 0, .int .u8 0, .int .u8 0, .int .u8 0, .int .u8 0, .int .u8 0, .int .u8 0, .int .u8 0, .int .u8 0, .int .u8 0, .int .u8 0, .int .u8 0, .int .u8 0, .int .u8 0, .int .u8 0, .int .u8 0, .int .u8 0, .int .u8 0, .int .u8 0, .int .u8 0, .int .u8 0, .int .u8 0] 101) = V := ⟨_, rfl⟩
          rw [hu10w] at s10 q10 t1_10 t4_10
          rw [hu10w]
          clear hu10w
          refine nextS 3 (by kernel_rfl) (by rfl) (fun o ho K hK => ?_)
          simp only [List.getElem?_toArray, List.getElem?_cons_succ, List.getElem?_cons_zero, Option.some.injEq] at ho; subst ho
          go_simp
          (go_at_call 41; (with_reducible refine (CB.out _).mono ?_); rintro e u11w ⟨rfl, b11⟩)
          have s11 : Below w0.heap.size w0 u11w := below_up s10 s10.size b11
          have t1_11 := Blk.on t1_10 b11
          have t4_11 := Blk.on t4_10 b11
          have t5_11 := Shp.tn_on q10 b11
          refine hK.out _ _ s11 (fun _ => ?_)
          clear hK K
          try simp only [Act.put, List.setIfInBounds_toArray, List.set_cons_zero, List.set_cons_succ]
          have hc4 := t4_11.cell
          have hf4 := t4_11.free
          have B4 : Blk (u11w.setCell ⟨u1w.heap.size, 0, none⟩ (.pointer (some ⟨wd.heap.size, 0, none⟩))) (u1w.heap.size) 92 #[(.pointer (some ⟨wd.heap.size, 0, none⟩))] := t4_11.set_ _
          have t6 : Shp.tn 25 (u11w.setCell ⟨u1w.heap.size, 0, none⟩ (.pointer (some ⟨wd.heap.size, 0, none⟩))) (u7w.heap.size) = true := (Shp.tn_to (Below.heap_setCell _ _ _ _ (Ne.symm ne4_5))).trans t5_11
          refine nextS 6 (by kernel_rfl) (by rfl) (fun o ho K hK => ?_)
          simp only [List.getElem?_toArray, List.getElem?_cons_succ, List.getElem?_cons_zero, Option.some.injEq] at ho; subst ho
          go_simp
          have sA : Below w0.heap.size w0 (u11w.setCell ⟨u1w.heap.size, 0, none⟩ (.pointer (some ⟨wd.heap.size, 0, none⟩))) := s11.setCell s1.size _
          refine hK.out _ _ sA (fun _ => ?_)
          clear hK K
          try simp only [Act.put, List.setIfInBounds_toArray, List.set_cons_zero, List.set_cons_succ]
          refine nextS 7 (by kernel_rfl) (by rfl) (fun o ho K hK => ?_)
          simp only [List.getElem?_toArray, List.getElem?_cons_succ, List.getElem?_cons_zero, Option.some.injEq] at ho; subst ho
          go_simp
          have sB : Below w0.heap.size w0 ((u11w.setCell ⟨u1w.heap.size, 0, none⟩ (.pointer (some ⟨wd.heap.size, 0, none⟩))).setRow (u7w.heap.size) (kS.v k)) := below_setRow sA s7.size _
          refine hK.out _ _ sB (fun _ => ?_)
          clear hK K
          try simp only [Act.put, List.setIfInBounds_toArray, List.set_cons_zero, List.set_cons_succ]
          refine wpAnyH_done (by kernel_rfl) ?_ _
          refine NoPanic.normal ?_
          have RB := Shp.rd_set (S := kS) (u11w.setCell ⟨u1w.heap.size, 0, none⟩ (.pointer (some ⟨wd.heap.size, 0, none⟩))) (u7w.heap.size) k t6
          have A4 : Blk ((u11w.setCell ⟨u1w.heap.size, 0, none⟩ (.pointer (some ⟨wd.heap.size, 0, none⟩))).setRow (u7w.heap.size) (kS.v k)) (u1w.heap.size) 92 #[(.pointer (some ⟨wd.heap.size, 0, none⟩))] := ⟨(heap_setRow _ _ _ _ ne4_5).trans B4.out⟩
          have z4 : w0.heap.size ≤ u1w.heap.size := s1.size
          have z5 : w0.heap.size ≤ u7w.heap.size := s7.size
          have A1 : Blk ((u11w.setCell ⟨u1w.heap.size, 0, none⟩ (.pointer (some ⟨wd.heap.size, 0, none⟩))).setRow (u7w.heap.size) (kS.v k)) (wd.heap.size) 73 #[.pointer none] := ⟨(heap_setRow _ _ _ _ ne1_5).trans ((Below.heap_setCell _ _ _ _ ne1_4).trans (t1_11).out)⟩
          have z1 : w0.heap.size ≤ wd.heap.size := sd.size
          go_wp2_with fail
          go_meet
          exact ⟨_, _, _, rfl, rfl, A4, RB, z4, z5, A1, z1, sB⟩
      · simp only [List.getElem?_toArray, List.getElem?_cons_succ, List.getElem?_cons_zero, Option.some.injEq] at ho; subst ho
        go_simp
        have s12 : Below w0.heap.size w0 (u1w.alloc (.cells #[.int .u8 0, .int .u8 0, .int .u8 0, .int .u8 0, .int .u8 0, .int .u8 0, .int .u8 0, .int .u8 0, .int .u8 0, .int .u8 0, .int .u8 0, .int .u8 0, .int .u8 0, .int .u8 0, .int .u8 0, .int .u8 0, .int .u8 0, .int .u8 0, .int .u8 0, .int .u8 0, .int .u8 0, .int .u8 0, .int .u8 0, .int .u8 0, .int .u8 0] 101)) := s1.alloc s1.size _
        have q12 : Shp.tn 25 (u1w.alloc (.cells #[.int .u8 0, .int .u8 0, .int .u8 0, .int .u8 0, .int .u8 0, .int .u8 0, .int .u8 0, .int .u8 0, .int .u8 0, .int .u8 0, .int .u8 0, .int .u8 0, .int .u8 0, .int .u8 0, .int .u8 0, .int .u8 0, .int .u8 0, .int .u8 0, .int .u8 0, .int .u8 0, .int .u8 0, .int .u8 0, .int .u8 0, .int .u8 0, .int .u8 0] 101)) u1w.heap.size = true := Shp.tn_of (Blk.new u1w _ _) rfl
        have t1_12 := Blk.on q1 (below_alloc_ u1w (.cells #[.int .u8 0, .int .u8 0, .int .u8 0, .int .u8 0, .int .u8 0, .int .u8 0, .int .u8 0, .int .u8 0, .int .u8 0, .int .u8 0, .int .u8 0, .int .u8 0, .int .u8 0, .int .u8 0, .int .u8 0, .int .u8 0, .int .u8 0, .int .u8 0, .int .u8 0, .int .u8 0, .int .u8 0, .int .u8 0, .int .u8 0, .int .u8 0, .int .u8 0] 101))
        have ne1_5 : wd.heap.size ≠ u1w.heap.size := Nat.ne_of_lt (Blk.lt q1)
        refine hK.out _ _ s12 (fun _ => ?_)
        clear hK K
        try simp only [Act.put, List.setIfInBounds_toArray, List.set_cons_zero, List.set_cons_succ]
        obtain ⟨u12w, hu12w⟩ : ∃ V, u1w.alloc (.cells #[.int .u8 0, .int .u8 0, .int .u8 0, .int .u8 0, .int .u8 0, .int .u8 0, .int .u8 0, .int .u8 0, .int .u8 0, .int .u8 0, .int .u8 0, .int .u8 0, .int .u8 0, .int .u8 0, .int .u8 0, .int .u8 0, .int .u8 0, .int .u8 0, .int .u8 0, .int .u8 0, .int .u8 0, .int .u8 0, .int .u8 0, .int .u8 0, .int .u8 0] 101) = V := ⟨_, rfl⟩
        rw [hu12w] at s12 q12 t1_12
        rw [hu12w]
        clear hu12w
        refine forkS 3 4 (by kernel_rfl) (by rfl) (by rfl) (fun o ho K hK => ?_) (fun o ho K hK => ?_)
        · simp only [List.getElem?_toArray, List.getElem?_cons_succ, List.getElem?_cons_zero, Option.some.injEq] at ho; subst ho
          go_simp
          (go_at_call 41; (with_reducible refine (CB.out _).mono ?_); rintro e u13w ⟨rfl, b13⟩)
          have s13 : Below w0.heap.size w0 u13w := below_up s12 s12.size b13
          have t1_13 := Blk.on t1_12 b13
          have t5_13 := Shp.tn_on q12 b13
          refine hK.out _ _ s13 (fun _ => ?_)
          clear hK K
          try simp only [Act.put, List.setIfInBounds_toArray, List.set_cons_zero, List.set_cons_succ]
          refine nextS 4 (by kernel_rfl) (by rfl) (fun o ho K hK => ?_)
          simp only [List.getElem?_toArray, List.getElem?_cons_succ, List.getElem?_cons_zero, Option.some.injEq] at ho; subst ho
          go_simp
          have s14 : Below w0.heap.size w0 (u13w.alloc (.cells #[.pointer none] 92)) := s13.alloc s13.size _
          have q14 : Blk (u13w.alloc (.cells #[.pointer none] 92)) u13w.heap.size 92 #[.pointer none] := Blk.new u13w _ _
          have t1_14 := Blk.on t1_13 (below_alloc_ u13w (.cells #[.pointer none] 92))
          have ne1_4 : wd.heap.size ≠ u13w.heap.size := Nat.ne_of_lt (Blk.lt t1_13)
          have t5_14 := Shp.tn_on t5_13 (below_alloc_ u13w (.cells #[.pointer none] 92))
          have ne4_5 : u13w.heap.size ≠ u1w.heap.size := Nat.ne_of_gt (Shp.tn_lt t5_13)
          refine hK.out _ _ s14 (fun _ => ?_)
          clear hK K
          try simp only [Act.put, List.setIfInBounds_toArray, List.set_cons_zero, List.set_cons_succ]
          obtain ⟨u14w, hu14w⟩ : ∃ V, u13w.alloc (.cells #[.pointer none] 92) = V := ⟨_, rfl⟩
          rw [hu14w] at s14 q14 t1_14 t5_14
          rw [hu14w]
          clear hu14w
          have hc4 := q14.cell
          have hf4 := q14.free
          have B4 : Blk (u14w.setCell ⟨u13w.heap.size, 0, none⟩ (.pointer (some ⟨wd.heap.size, 0, none⟩))) (u13w.heap.size) 92 #[(.pointer (some ⟨wd.heap.size, 0, none⟩))] := q14.set_ _
          have t6 : Shp.tn 25 (u14w.setCell ⟨u13w.heap.size, 0, none⟩ (.pointer (some ⟨wd.heap.size, 0, none⟩))) (u1w.heap.size) = true := (Shp.tn_to (Below.heap_setCell _ _ _ _ (Ne.symm ne4_5))).trans t5_14
          refine nextS 6 (by kernel_rfl) (by rfl) (fun o ho K hK => ?_)
          simp only [List.getElem?_toArray, List.getElem?_cons_succ, List.getElem?_cons_zero, Option.some.injEq] at ho; subst ho
          go_simp
          have sA : Below w0.heap.size w0 (u14w.setCell ⟨u13w.heap.size, 0, none⟩ (.pointer (some ⟨wd.heap.size, 0, none⟩))) := s14.setCell s13.size _
          refine hK.out _ _ sA (fun _ => ?_)
          clear hK K
          try simp only [Act.put, List.setIfInBounds_toArray, List.set_cons_zero, List.set_cons_succ]
          refine nextS 7 (by kernel_rfl) (by rfl) (fun o ho K hK => ?_)
          simp only [List.getElem?_toArray, List.getElem?_cons_succ, List.getElem?_cons_zero, Option.some.injEq] at ho; subst ho
          go_simp
          have sB : Below w0.heap.size w0 ((u14w.setCell ⟨u13w.heap.size, 0, none⟩ (.pointer (some ⟨wd.heap.size, 0, none⟩))).setRow (u1w.heap.size) (kS.v k)) := below_setRow sA s1.size _
          refine hK.out _ _ sB (fun _ => ?_)
          clear hK K
          try simp only [Act.put, List.setIfInBounds_toArray, List.set_cons_zero, List.set_cons_succ]
          refine wpAnyH_done (by kernel_rfl) ?_ _
          refine NoPanic.normal ?_
          have RB := Shp.rd_set (S := kS) (u14w.setCell ⟨u13w.heap.size, 0, none⟩ (.pointer (some ⟨wd.heap.size, 0, none⟩))) (u1w.heap.size) k t6
          have A4 : Blk ((u14w.setCell ⟨u13w.heap.size, 0, none⟩ (.pointer (some ⟨wd.heap.size, 0, none⟩))).setRow (u1w.heap.size) (kS.v k)) (u13w.heap.size) 92 #[(.pointer (some ⟨wd.heap.size, 0, none⟩))] := ⟨(heap_setRow _ _ _ _ ne4_5).trans B4.out⟩
          have z4 : w0.heap.size ≤ u13w.heap.size := s13.size
          have z5 : w0.heap.size ≤ u1w.heap.size := s1.size
          have A1 : Blk ((u14w.setCell ⟨u13w.heap.size, 0, none⟩ (.pointer (some ⟨wd.heap.size, 0, none⟩))).setRow (u1w.heap.size) (kS.v k)) (wd.heap.size) 73 #[.pointer none] := ⟨(heap_setRow _ _ _ _ ne1_5).trans ((Below.heap_setCell _ _ _ _ ne1_4).trans (t1_14).out)⟩
          have z1 : w0.heap.size ≤ wd.heap.size := sd.size
          go_wp2_with fail
          go_meet
          exact ⟨_, _, _, rfl, rfl, A4, RB, z4, z5, A1, z1, sB⟩
        · simp only [List.getElem?_toArray, List.getElem?_cons_succ, List.getElem?_cons_zero, Option.some.injEq] at ho; subst ho
          go_simp
          have s15 : Below w0.heap.size w0 (u12w.alloc (.cells #[.pointer none] 92)) := s12.alloc s12.size _
          have q15 : Blk (u12w.alloc (.cells #[.pointer none] 92)) u12w.heap.size 92 #[.pointer none] := Blk.new u12w _ _
          have t1_15 := Blk.on t1_12 (below_alloc_ u12w (.cells #[.pointer none] 92))
          have ne1_4 : wd.heap.size ≠ u12w.heap.size := Nat.ne_of_lt (Blk.lt t1_12)
          have t5_15 := Shp.tn_on q12 (below_alloc_ u12w (.cells #[.pointer none] 92))
          have ne4_5 : u12w.heap.size ≠ u1w.heap.size := Nat.ne_of_gt (Shp.tn_lt q12)
          refine hK.out _ _ s15 (fun _ => ?_)
          clear hK K
          try simp only [Act.put, List.setIfInBounds_toArray, List.set_cons_zero, List.set_cons_succ]
          obtain ⟨u15w, hu15w⟩ : ∃ V, u12w.alloc (.cells #[.pointer none] 92) = V := ⟨_, rfl⟩
          rw [hu15w] at s15 q15 t1_15 t5_15
          rw [hu15w]
          clear hu15w
          refine nextS 3 (by kernel_rfl) (by rfl) (fun o ho K hK => ?_)
          simp only [List.getElem?_toArray, List.getElem?_cons_succ, List.getElem?_cons_zero, Option.some.injEq] at ho; subst ho
          go_simp
          (go_at_call 41; (with_reducible refine (CB.out _).mono ?_); rintro e u16w ⟨rfl, b16⟩)
          have s16 : Below w0.heap.size w0 u16w := below_up s15 s15.size b16
          have t1_16 := Blk.on t1_15 b16
          have t5_16 := Shp.tn_on t5_15 b16
          have t4_16 := Blk.on q15 b16
          refine hK.out _ _ s16 (fun _ => ?_)
          clear hK K
          try simp only [Act.put, List.setIfInBounds_toArray, List.set_cons_zero, List.set_cons_succ]
          have hc4 := t4_16.cell
          have hf4 := t4_16.free
          have B4 : Blk (u16w.setCell ⟨u12w.heap.size, 0, none⟩ (.pointer (some ⟨wd.heap.size, 0, none⟩))) (u12w.heap.size) 92 #[(.pointer (some ⟨wd.heap.size, 0, none⟩))] := t4_16.set_ _
          have t6 : Shp.tn 25 (u16w.setCell ⟨u12w.heap.size, 0, none⟩ (.pointer (some ⟨wd.heap.size, 0, none⟩))) (u1w.heap.size) = true := (Shp.tn_to (Below.heap_setCell _ _ _ _ (Ne.symm ne4_5))).trans t5_16
          refine nextS 6 (by kernel_rfl) (by rfl) (fun o ho K hK => ?_)
          simp only [List.getElem?_toArray, List.getElem?_cons_succ, List.getElem?_cons_zero, Option.some.injEq] at ho; subst ho
          go_simp
          have sA : Below w0.heap.size w0 (u16w.setCell ⟨u12w.heap.size, 0, none⟩ (.pointer (some ⟨wd.heap.size, 0, none⟩))) := s16.setCell s12.size _
          refine hK.out _ _ sA (fun _ => ?_)
          clear hK K
          try simp only [Act.put, List.setIfInBounds_toArray, List.set_cons_zero, List.set_cons_succ]
          refine nextS 7 (by kernel_rfl) (by rfl) (fun o ho K hK => ?_)
          simp only [List.getElem?_toArray, List.getElem?_cons_succ, List.getElem?_cons_zero, Option.some.injEq] at ho; subst ho
          go_simp
          have sB : Below w0.heap.size w0 ((u16w.setCell ⟨u12w.heap.size, 0, none⟩ (.pointer (some ⟨wd.heap.size, 0, none⟩))).setRow (u1w.heap.size) (kS.v k)) := below_setRow sA s1.size _
          refine hK.out _ _ sB (fun _ => ?_)
          clear hK K
          try simp only [Act.put, List.setIfInBounds_toArray, List.set_cons_zero, List.set_cons_succ]
          refine wpAnyH_done (by kernel_rfl) ?_ _
          refine NoPanic.normal ?_
          have RB := Shp.rd_set (S := kS) (u16w.setCell ⟨u12w.heap.size, 0, none⟩ (.pointer (some ⟨wd.heap.size, 0, none⟩))) (u1w.heap.size) k t6
          have A4 : Blk ((u16w.setCell ⟨u12w.heap.size, 0, none⟩ (.pointer (some ⟨wd.heap.size, 0, none⟩))).setRow (u1w.heap.size) (kS.v k)) (u12w.heap.size) 92 #[(.pointer (some ⟨wd.heap.size, 0, none⟩))] := ⟨(heap_setRow _ _ _ _ ne4_5).trans B4.out⟩
          have z4 : w0.heap.size ≤ u12w.heap.size := s12.size
          have z5 : w0.heap.size ≤ u1w.heap.size := s1.size
          have A1 : Blk ((u16w.setCell ⟨u12w.heap.size, 0, none⟩ (.pointer (some ⟨wd.heap.size, 0, none⟩))).setRow (u1w.heap.size) (kS.v k)) (wd.heap.size) 73 #[.pointer none] := ⟨(heap_setRow _ _ _ _ ne1_5).trans ((Below.heap_setCell _ _ _ _ ne1_4).trans (t1_16).out)⟩
          have z1 : w0.heap.size ≤ wd.heap.size := sd.size
          go_wp2_with fail
          go_meet
          exact ⟨_, _, _, rfl, rfl, A4, RB, z4, z5, A1, z1, sB⟩
    · simp only [List.getElem?_toArray, List.getElem?_cons_succ, List.getElem?_cons_zero, Option.some.injEq] at ho; subst ho
      go_simp
      have s17 : Below w0.heap.size w0 (wd.alloc (.cells #[.pointer none] 92)) := sd.alloc sd.size _
      have q17 : Blk (wd.alloc (.cells #[.pointer none] 92)) wd.heap.size 92 #[.pointer none] := Blk.new wd _ _
      refine hK.out _ _ s17 (fun _ => ?_)
      clear hK K
      try simp only [Act.put, List.setIfInBounds_toArray, List.set_cons_zero, List.set_cons_succ]
      obtain ⟨u17w, hu17w⟩ : ∃ V, wd.alloc (.cells #[.pointer none] 92) = V := ⟨_, rfl⟩
      rw [hu17w] at s17 q17
      rw [hu17w]
      clear hu17w
      refine forkS 1 5 (by kernel_rfl) (by rfl) (by rfl) (fun o ho K hK => ?_) (fun o ho K hK => ?_)
      · simp only [List.getElem?_toArray, List.getElem?_cons_succ, List.getElem?_cons_zero, Option.some.injEq] at ho; subst ho
        go_simp
        (go_at_call 44; (with_reducible refine (top_nil _).mono ?_); rintro e u18w ⟨rfl, hu18w⟩)
        have b18 : Below u17w.heap.size u17w u18w := by rw [hu18w]; exact below_alloc_ _ _
        have q18 : Blk u18w u17w.heap.size 73 #[.pointer none] := by rw [hu18w]; exact Blk.new _ _ _
        have s18 : Below w0.heap.size w0 u18w := below_up s17 s17.size b18
        have t4_18 := Blk.on q17 b18
        have ne1_4 : u17w.heap.size ≠ wd.heap.size := Nat.ne_of_gt (Blk.lt q17)
        refine hK.out _ _ s18 (fun _ => ?_)
        clear hK K
        try simp only [Act.put, List.setIfInBounds_toArray, List.set_cons_zero, List.set_cons_succ]
        clear hu18w
        refine forkS 3 5 (by kernel_rfl) (by rfl) (by rfl) (fun o ho K hK => ?_) (fun o ho K hK => ?_)
        · simp only [List.getElem?_toArray, List.getElem?_cons_succ, List.getElem?_cons_zero, Option.some.injEq] at ho; subst ho
          go_simp
          (go_at_call 41; (with_reducible refine (CB.out _).mono ?_); rintro e u19w ⟨rfl, b19⟩)
          have s19 : Below w0.heap.size w0 u19w := below_up s18 s18.size b19
          have t4_19 := Blk.on t4_18 b19
          have t1_19 := Blk.on q18 b19
          refine hK.out _ _ s19 (fun _ => ?_)
          clear hK K
          try simp only [Act.put, List.setIfInBounds_toArray, List.set_cons_zero, List.set_cons_succ]
          refine nextS 5 (by kernel_rfl) (by rfl) (fun o ho K hK => ?_)
          simp only [List.getElem?_toArray, List.getElem?_cons_succ, List.getElem?_cons_zero, Option.some.injEq] at ho; subst ho
          go_simp
          have s20 : Below w0.heap.size w0 (u19w.alloc (.cells #[.int .u8 0, .int .u8 0, .int .u8 0, .int .u8 0, .int .u8 0, .int .u8 0, .int .u8 0, .int .u8 0, .int .u8 0, .int .u8 0, .int .u8 0, .int .u8 0, .int .u8 0, .int .u8 0, .int .u8 0, .int .u8 0, .int .u8 0, .int .u8 0, .int .u8 0, .int .u8 0, .int .u8 0, .int .u8 0, .int .u8 0, .int .u8 0, .int .u8 0] 101)) := s19.alloc s19.size _
          have q20 : Shp.tn 25 (u19w.alloc (.cells #[.int .u8 0, .int .u8 0, .int .u8 0, .int .u8 0, .int .u8 0, .int .u8 0, .int .u8 0, .int .u8 0, .int .u8 0, .int .u8 0, .int .u8 0, .int .u8 0, .int .u8 0, .int .u8 0, .int .u8 0, .int .u8 0, .int .u8 0, .int .u8 0, .int .u8 0, .int .u8 0, .int .u8 0, .int .u8 0, .int .u8 0, .int .u8 0, .int .u8 0] 101)) u19w.heap.size = true := Shp.tn_of (Blk.new u19w _ _) rfl
          have t4_20 := Blk.on t4_19 (below_alloc_ u19w (.cells #[.int .u8 0, .int .u8 0, .int .u8 0, .int .u8 0, .int .u8 0, .int .u8 0, .int .u8 0, .int .u8 0, .int .u8 0, .int .u8 0, .int .u8 0, .int .u8 0, .int .u8 0, .int .u8 0, .int .u8 0, .int .u8 0, .int .u8 0, .int .u8 0, .int .u8 0, .int .u8 0, .int .u8 0, .int .u8 0, .int .u8 0, .int .u8 0, .int .u8 0] 101))
          have ne4_5 : wd.heap.size ≠ u19w.heap.size := Nat.ne_of_lt (Blk.lt t4_19)
          have t1_20 := Blk.on t1_19 (below_alloc_ u19w (.cells #[.int .u8 0, .int .u8 0, .int .u8 0, .int .u8 0, .int .u8 0, .int .u8 0, .int .u8 0, .int .u8 0, .int .u8 0, .int .u8 0, .int .u8 0, .int .u8 0, .int .u8 0, .int .u8 0, .int .u8 0, .int .u8 0, .int .u8 0, .int .u8 0, .int .u8 0, .int .u8 0, .int .u8 0, .int .u8 0, .int .u8 0, .int .u8 0, .int .u8 0] 101))
          have ne1_5 : u17w.heap.size ≠ u19w.heap.size := Nat.ne_of_lt (Blk.lt t1_19)
          refine hK.out _ _ s20 (fun _ => ?_)
          clear hK K
          try simp only [Act.put, List.setIfInBounds_toArray, List.set_cons_zero, List.set_cons_succ]
          obtain ⟨u20w, hu20w⟩ : ∃ V, u19w.alloc (.cells #[.int .u8 0, .int .u8 0, .int .u8 0, .int .u8 0, .int .u8 0, .int .u8 0, .int .u8 0, .int .u8 0, .int .u8 0, .int .u8 0, .int .u8 0, .int .u8 0, .int .u8 0, .int .u8 0, .int .u8 0, .int .u8 0, .int .u8 0, .int .u8 0, .int .u8 0, .int .u8 0, .int .u8 0, .int .u8 0, .int .u8 0, .int .u8 0, .int .u8 0] 101) = V := ⟨_, rfl⟩
          rw [hu20w] at s20 q20 t4_20 t1_20
          rw [hu20w]
          clear hu20w
          have hc4 := t4_20.cell
          have hf4 := t4_20.free
          have B4 : Blk (u20w.setCell ⟨wd.heap.size, 0, none⟩ (.pointer (some ⟨u17w.heap.size, 0, none⟩))) (wd.heap.size) 92 #[(.pointer (some ⟨u17w.heap.size, 0, none⟩))] := t4_20.set_ _
          have t6 : Shp.tn 25 (u20w.setCell ⟨wd.heap.size, 0, none⟩ (.pointer (some ⟨u17w.heap.size, 0, none⟩))) (u19w.heap.size) = true := (Shp.tn_to (Below.heap_setCell _ _ _ _ (Ne.symm ne4_5))).trans q20
          refine nextS 6 (by kernel_rfl) (by rfl) (fun o ho K hK => ?_)
          simp only [List.getElem?_toArray, List.getElem?_cons_succ, List.getElem?_cons_zero, Option.some.injEq] at ho; subst ho
          go_simp
          have sA : Below w0.heap.size w0 (u20w.setCell ⟨wd.heap.size, 0, none⟩ (.pointer (some ⟨u17w.heap.size, 0, none⟩))) := s20.setCell sd.size _
          refine hK.out _ _ sA (fun _ => ?_)
          clear hK K
          try simp only [Act.put, List.setIfInBounds_toArray, List.set_cons_zero, List.set_cons_succ]
          refine nextS 7 (by kernel_rfl) (by rfl) (fun o ho K hK => ?_)
          simp only [List.getElem?_toArray, List.getElem?_cons_succ, List.getElem?_cons_zero, Option.some.injEq] at ho; subst ho
          go_simp
          have sB : Below w0.heap.size w0 ((u20w.setCell ⟨wd.heap.size, 0, none⟩ (.pointer (some ⟨u17w.heap.size, 0, none⟩))).setRow (u19w.heap.size) (kS.v k)) := below_setRow sA s19.size _
          refine hK.out _ _ sB (fun _ => ?_)
          clear hK K
          try simp only [Act.put, List.setIfInBounds_toArray, List.set_cons_zero, List.set_cons_succ]
          refine wpAnyH_done (by kernel_rfl) ?_ _
          refine NoPanic.normal ?_
          have RB := Shp.rd_set (S := kS) (u20w.setCell ⟨wd.heap.size, 0, none⟩ (.pointer (some ⟨u17w.heap.size, 0, none⟩))) (u19w.heap.size) k t6
          have A4 : Blk ((u20w.setCell ⟨wd.heap.size, 0, none⟩ (.pointer (some ⟨u17w.heap.size, 0, none⟩))).setRow (u19w.heap.size) (kS.v k)) (wd.heap.size) 92 #[(.pointer (some ⟨u17w.heap.size, 0, none⟩))] := ⟨(heap_setRow _ _ _ _ ne4_5).trans B4.out⟩
          have z4 : w0.heap.size ≤ wd.heap.size := sd.size
          have z5 : w0.heap.size ≤ u19w.heap.size := s19.size
          have A1 : Blk ((u20w.setCell ⟨wd.heap.size, 0, none⟩ (.pointer (some ⟨u17w.heap.size, 0, none⟩))).setRow (u19w.heap.size) (kS.v k)) (u17w.heap.size) 73 #[.pointer none] := ⟨(heap_setRow _ _ _ _ ne1_5).trans ((Below.heap_setCell _ _ _ _ ne1_4).trans (t1_20).out)⟩
          have z1 : w0.heap.size ≤ u17w.heap.size := s17.size
          go_wp2_with fail
          go_meet
          exact ⟨_, _, _, rfl, rfl, A4, RB, z4, z5, A1, z1, sB⟩
        · simp only [List.getElem?_toArray, List.getElem?_cons_succ, List.getElem?_cons_zero, Option.some.injEq] at ho; subst ho
          go_simp
          have s21 : Below w0.heap.size w0 (u18w.alloc (.cells #[.int .u8 0, .int .u8 0, .int .u8 0, .int .u8 0, .int .u8 0, .int .u8 0, .int .u8 0, .int .u8 0, .int .u8 0, .int .u8 0, .int .u8 0, .int .u8 0, .int .u8 0, .int .u8 0, .int .u8 0, .int .u8 0, .int .u8 0, .int .u8 0, .int .u8 0, .int .u8 0, .int .u8 0, .int .u8 0, .int .u8 0, .int .u8 0, .int .u8 0] 101)) := s18.alloc s18.size _
          have q21 : Shp.tn 25 (u18w.alloc (.cells #[.int .u8 0, .int .u8 0, .int .u8 0, .int .u8 0, .int .u8 0, .int .u8 0, .int .u8 0, .int .u8 0, .int .u8 0, .int .u8 0, .int .u8 0, .int .u8 0, .int .u8 0, .int .u8 0, .int .u8 0, .int .u8 0, .int .u8 0, .int .u8 0, .int .u8 0, .int .u8 0, .int .u8 0, .int .u8 0, .int .u8 0, .int .u8 0, .int .u8 0] 101)) u18w.heap.size = true := Shp.tn_of (Blk.new u18w _ _) rfl
          have t4_21 := Blk.on t4_18 (below_alloc_ u18w (.cells #[.int .u8 0, .int .u8 0, .int .u8 0, .int .u8 0, .int .u8 0, .int .u8 0, .int .u8 0, .int .u8 0, .int .u8 0, .int .u8 0, .int .u8 0, .int .u8 0, .int .u8 0, .int .u8 0, .int .u8 0, .int .u8 0, .int .u8 0, .int .u8 0, .int .u8 0, .int .u8 0, .int .u8 0, .int .u8 0, .int .u8 0, .int .u8 0, .int .u8 0] 101))
          have ne4_5 : wd.heap.size ≠ u18w.heap.size := Nat.ne_of_lt (Blk.lt t4_18)
          have t1_21 := Blk.on q18 (below_alloc_ u18w (.cells #[.int .u8 0, .int .u8 0, .int .u8 0, .int .u8 0, .int .u8 0, .int .u8 0, .int .u8 0, .int .u8 0, .int .u8 0, .int .u8 0, .int .u8 0, .int .u8 0, .int .u8 0, .int .u8 0, .int .u8 0, .int .u8 0, .int .u8 0, .int .u8 0, .int .u8 0, .int .u8 0, .int .u8 0, .int .u8 0, .int .u8 0, .int .u8 0, .int .u8 0] 101))
          have ne1_5 : u17w.heap.size ≠ u18w.heap.size := Nat.ne_of_lt (Blk.lt q18)
          refine hK.out _ _ s21 (fun _ => ?_)
          clear hK K
          try simp only [Act.put, List.setIfInBounds_toArray, List.set_cons_zero, List.set_cons_succ]
          obtain ⟨u21w, hu21w⟩ : ∃ V, u18w.alloc (.cells #[.int .u8 0, .int .u8 0, .int .u8 0, .int .u8 0, .int .u8 0, .int .u8 0, .int .u8 0, .int .u8 0, .int .u8 0, .int .u8 0, .int .u8 0, .int .u8 0, .int .u8 0, .int .u8 0, .int .u8 0, .int .u8 0, .int .u8 0, .int .u8 0, .int .u8 0, .int .u8 0, .int .u8 0, .int .u8 0, .int .u8 0, .int .u8 0, .int .u8 0] 101) = V := ⟨_, rfl⟩
          rw [hu21w] at s21 q21 t4_21 t1_21
          rw [hu21w]
          clear hu21w
          refine nextS 3 (by kernel_rfl) (by rfl) (fun o ho K hK => ?_)
          simp only [List.getElem?_toArray, List.getElem?_cons_succ, List.getElem?_cons_zero, Option.some.injEq] at ho; subst ho
          go_simp
          (go_at_call 41; (with_reducible refine (CB.out _).mono ?_); rintro e u22w ⟨rfl, b22⟩)
          have s22 : Below w0.heap.size w0 u22w := below_up s21 s21.size b22
          have t4_22 := Blk.on t4_21 b22
          have t1_22 := Blk.on t1_21 b22
          have t5_22 := Shp.tn_on q21 b22
          refine hK.out _ _ s22 (fun _ => ?_)
          clear hK K
          try simp only [Act.put, List.setIfInBounds_toArray, List.set_cons_zero, List.set_cons_succ]
          have hc4 := t4_22.cell
          have hf4 := t4_22.free
          have B4 : Blk (u22w.setCell ⟨wd.heap.size, 0, none⟩ (.pointer (some ⟨u17w.heap.size, 0, none⟩))) (wd.heap.size) 92 #[(.pointer (some ⟨u17w.heap.size, 0, none⟩))] := t4_22.set_ _
          have t6 : Shp.tn 25 (u22w.setCell ⟨wd.heap.size, 0, none⟩ (.pointer (some ⟨u17w.heap.size, 0, none⟩))) (u18w.heap.size) = true := (Shp.tn_to (Below.heap_setCell _ _ _ _ (Ne.symm ne4_5))).trans t5_22
          refine nextS 6 (by kernel_rfl) (by rfl) (fun o ho K hK => ?_)
          simp only [List.getElem?_toArray, List.getElem?_cons_succ, List.getElem?_cons_zero, Option.some.injEq] at ho; subst ho
          go_simp
          have sA : Below w0.heap.size w0 (u22w.setCell ⟨wd.heap.size, 0, none⟩ (.pointer (some ⟨u17w.heap.size, 0, none⟩))) := s22.setCell sd.size _
          refine hK.out _ _ sA (fun _ => ?_)
          clear hK K
          try simp only [Act.put, List.setIfInBounds_toArray, List.set_cons_zero, List.set_cons_succ]
          refine nextS 7 (by kernel_rfl) (by rfl) (fun o ho K hK => ?_)
          simp only [List.getElem?_toArray, List.getElem?_cons_succ, List.getElem?_cons_zero, Option.some.injEq] at ho; subst ho
          go_simp
          have sB : Below w0.heap.size w0 ((u22w.setCell ⟨wd.heap.size, 0, none⟩ (.pointer (some ⟨u17w.heap.size, 0, none⟩))).setRow (u18w.heap.size) (kS.v k)) := below_setRow sA s18.size _
          refine hK.out _ _ sB (fun _ => ?_)
          clear hK K
          try simp only [Act.put, List.setIfInBounds_toArray, List.set_cons_zero, List.set_cons_succ]
          refine wpAnyH_done (by kernel_rfl) ?_ _
          refine NoPanic.normal ?_
          have RB := Shp.rd_set (S := kS) (u22w.setCell ⟨wd.heap.size, 0, none⟩ (.pointer (some ⟨u17w.heap.size, 0, none⟩))) (u18w.heap.size) k t6
          have A4 : Blk ((u22w.setCell ⟨wd.heap.size, 0, none⟩ (.pointer (some ⟨u17w.heap.size, 0, none⟩))).setRow (u18w.heap.size) (kS.v k)) (wd.heap.size) 92 #[(.pointer (some ⟨u17w.heap.size, 0, none⟩))] := ⟨(heap_setRow _ _ _ _ ne4_5).trans B4.out⟩
          have z4 : w0.heap.size ≤ wd.heap.size := sd.size
          have z5 : w0.heap.size ≤ u18w.heap.size := s18.size
          have A1 : Blk ((u22w.setCell ⟨wd.heap.size, 0, none⟩ (.pointer (some ⟨u17w.heap.size, 0, none⟩))).setRow (u18w.heap.size) (kS.v k)) (u17w.heap.size) 73 #[.pointer none] := ⟨(heap_setRow _ _ _ _ ne1_5).trans ((Below.heap_setCell _ _ _ _ ne1_4).trans (t1_22).out)⟩
          have z1 : w0.heap.size ≤ u17w.heap.size := s17.size
          go_wp2_with fail
          go_meet
          exact ⟨_, _, _, rfl, rfl, A4, RB, z4, z5, A1, z1, sB⟩
      · simp only [List.getElem?_toArray, List.getElem?_cons_succ, List.getElem?_cons_zero, Option.some.injEq] at ho; subst ho
        go_simp
        have s23 : Below w0.heap.size w0 (u17w.alloc (.cells #[.int .u8 0, .int .u8 0, .int .u8 0, .int .u8 0, .int .u8 0, .int .u8 0, .int .u8 0, .int .u8 0, .int .u8 0, .int .u8 0, .int .u8 0, .int .u8 0, .int .u8 0, .int .u8 0, .int .u8 0, .int .u8 0, .int .u8 0, .int .u8 0, .int .u8 0, .int .u8 0, .int .u8 0, .int .u8 0, .int .u8 0, .int .u8 0, .int .u8 0] 101)) := s17.alloc s17.size _
        have q23 : Shp.tn 25 (u17w.alloc (.cells #[.int .u8 0, .int .u8 0, .int .u8 0, .int .u8 0, .int .u8 0, .int .u8 0, .int .u8 0, .int .u8 0, .int .u8 0, .int .u8 0, .int .u8 0, .int .u8 0, .int .u8 0, .int .u8 0, .int .u8 0, .int .u8 0, .int .u8 0, .int .u8 0, .int .u8 0, .int .u8 0, .int .u8 0, .int .u8 0, .int .u8 0, .int .u8 0, .int .u8 0] 101)) u17w.heap.size = true := Shp.tn_of (Blk.new u17w _ _) rfl
        have t4_23 := Blk.on q17 (below_alloc_ u17w (.cells #[.int .u8 0, .int .u8 0, .int .u8 0, .int .u8 0, .int .u8 0, .int .u8 0, .int .u8 0, .int .u8 0, .int .u8 0, .int .u8 0, .int .u8 0, .int .u8 0, .int .u8 0, .int .u8 0, .int .u8 0, .int .u8 0, .int .u8 0, .int .u8 0, .int .u8 0, .int .u8 0, .int .u8 0, .int .u8 0, .int .u8 0, .int .u8 0, .int .u8 0] 101))
        have ne4_5 : wd.heap.size ≠ u17w.heap.size := Nat.ne_of_lt (Blk.lt q17)
        refine hK.out _ _ s23 (fun _ => ?_)
        clear hK K
        try simp only [Act.put, List.setIfInBounds_toArray, List.set_cons_zero, List.set_cons_succ]
        obtain ⟨u23w, hu23w⟩ : ∃ V, u17w.alloc (.cells #[.int .u8 0, .int .u8 0, .int .u8 0, .int .u8 0, .int .u8 0, .int .u8 0, .int .u8 0, .int .u8 0, .int .u8 0, .int .u8 0, .int .u8 0, .int .u8 0, .int .u8 0, .int .u8 0, .int .u8 0, .int .u8 0, .int .u8 0, .int .u8 0, .int .u8 0, .int .u8 0, .int .u8 0, .int .u8 0, .int .u8 0, .int .u8 0, .int .u8 0] 101) = V := ⟨_, rfl⟩
        rw [hu23w] at s23 q23 t4_23
        rw [hu23w]
        clear hu23w
        refine nextS 1 (by kernel_rfl) (by rfl) (fun o ho K hK => ?_)
        simp only [List.getElem?_toArray, List.getElem?_cons_succ, List.getElem?_cons_zero, Option.some.injEq] at ho; subst ho
        go_simp
        (go_at_call 44; (with_reducible refine (top_nil _).mono ?_); rintro e u24w ⟨rfl, hu24w⟩)
        have b24 : Below u23w.heap.size u23w u24w := by rw [hu24w]; exact below_alloc_ _ _
        have q24 : Blk u24w u23w.heap.size 73 #[.pointer none] := by rw [hu24w]; exact Blk.new _ _ _
        have s24 : Below w0.heap.size w0 u24w := below_up s23 s23.size b24
        have t4_24 := Blk.on t4_23 b24
        have ne1_4 : u23w.heap.size ≠ wd.heap.size := Nat.ne_of_gt (Blk.lt t4_23)
        have t5_24 := Shp.tn_on q23 b24
        have ne1_5 : u23w.heap.size ≠ u17w.heap.size := Nat.ne_of_gt (Shp.tn_lt q23)
        refine hK.out _ _ s24 (fun _ => ?_)
        clear hK K
        try simp only [Act.put, List.setIfInBounds_toArray, List.set_cons_zero, List.set_cons_succ]
        clear hu24w
        refine nextS 3 (by kernel_rfl) (by rfl) (fun o ho K hK => ?_)
        simp only [List.getElem?_toArray, List.getElem?_cons_succ, List.getElem?_cons_zero, Option.some.injEq] at ho; subst ho
        go_simp
        (go_at_call 41; (with_reducible refine (CB.out _).mono ?_); rintro e u25w ⟨rfl, b25⟩)
        have s25 : Below w0.heap.size w0 u25w := below_up s24 s24.size b25
        have t4_25 := Blk.on t4_24 b25
        have t5_25 := Shp.tn_on t5_24 b25
        have t1_25 := Blk.on q24 b25
        refine hK.out _ _ s25 (fun _ => ?_)
        clear hK K
        try simp only [Act.put, List.setIfInBounds_toArray, List.set_cons_zero, List.set_cons_succ]
        have hc4 := t4_25.cell
        have hf4 := t4_25.free
        have B4 : Blk (u25w.setCell ⟨wd.heap.size, 0, none⟩ (.pointer (some ⟨u23w.heap.size, 0, none⟩))) (wd.heap.size) 92 #[(.pointer (some ⟨u23w.heap.size, 0, none⟩))] := t4_25.set_ _
        have t6 : Shp.tn 25 (u25w.setCell ⟨wd.heap.size, 0, none⟩ (.pointer (some ⟨u23w.heap.size, 0, none⟩))) (u17w.heap.size) = true := (Shp.tn_to (Below.heap_setCell _ _ _ _ (Ne.symm ne4_5))).trans t5_25
        refine nextS 6 (by kernel_rfl) (by rfl) (fun o ho K hK => ?_)
        simp only [List.getElem?_toArray, List.getElem?_cons_succ, List.getElem?_cons_zero, Option.some.injEq] at ho; subst ho
        go_simp
        have sA : Below w0.heap.size w0 (u25w.setCell ⟨wd.heap.size, 0, none⟩ (.pointer (some ⟨u23w.heap.size, 0, none⟩))) := s25.setCell sd.size _
        refine hK.out _ _ sA (fun _ => ?_)
        clear hK K
        try simp only [Act.put, List.setIfInBounds_toArray, List.set_cons_zero, List.set_cons_succ]
        refine nextS 7 (by kernel_rfl) (by rfl) (fun o ho K hK => ?_)
        simp only [List.getElem?_toArray, List.getElem?_cons_succ, List.getElem?_cons_zero, Option.some.injEq] at ho; subst ho
        go_simp
        have sB : Below w0.heap.size w0 ((u25w.setCell ⟨wd.heap.size, 0, none⟩ (.pointer (some ⟨u23w.heap.size, 0, none⟩))).setRow (u17w.heap.size) (kS.v k)) := below_setRow sA s17.size _
        refine hK.out _ _ sB (fun _ => ?_)
        clear hK K
        try simp only [Act.put, List.setIfInBounds_toArray, List.set_cons_zero, List.set_cons_succ]
        refine wpAnyH_done (by kernel_rfl) ?_ _
        refine NoPanic.normal ?_
        have RB := Shp.rd_set (S := kS) (u25w.setCell ⟨wd.heap.size, 0, none⟩ (.pointer (some ⟨u23w.heap.size, 0, none⟩))) (u17w.heap.size) k t6
        have A4 : Blk ((u25w.setCell ⟨wd.heap.size, 0, none⟩ (.pointer (some ⟨u23w.heap.size, 0, none⟩))).setRow (u17w.heap.size) (kS.v k)) (wd.heap.size) 92 #[(.pointer (some ⟨u23w.heap.size, 0, none⟩))] := ⟨(heap_setRow _ _ _ _ ne4_5).trans B4.out⟩
        have z4 : w0.heap.size ≤ wd.heap.size := sd.size
        have z5 : w0.heap.size ≤ u17w.heap.size := s17.size
        have A1 : Blk ((u25w.setCell ⟨wd.heap.size, 0, none⟩ (.pointer (some ⟨u23w.heap.size, 0, none⟩))).setRow (u17w.heap.size) (kS.v k)) (u23w.heap.size) 73 #[.pointer none] := ⟨(heap_setRow _ _ _ _ ne1_5).trans ((Below.heap_setCell _ _ _ _ ne1_4).trans (t1_25).out)⟩
        have z1 : w0.heap.size ≤ u23w.heap.size := s23.size
        go_wp2_with fail
        go_meet
        exact ⟨_, _, _, rfl, rfl, A4, RB, z4, z5, A1, z1, sB⟩
    · simp only [List.getElem?_toArray, List.getElem?_cons_succ, List.getElem?_cons_zero, Option.some.injEq] at ho; subst ho
      go_simp
      have s26 : Below w0.heap.size w0 (wd.alloc (.cells #[.int .u8 0, .int .u8 0, .int .u8 0, .int .u8 0, .int .u8 0, .int .u8 0, .int .u8 0, .int .u8 0, .int .u8 0, .int .u8 0, .int .u8 0, .int .u8 0, .int .u8 0, .int .u8 0, .int .u8 0, .int .u8 0, .int .u8 0, .int .u8 0, .int .u8 0, .int .u8 0, .int .u8 0, .int .u8 0, .int .u8 0, .int .u8 0, .int .u8 0] 101)) := sd.alloc sd.size _
      have q26 : Shp.tn 25 (wd.alloc (.cells #[.int .u8 0, .int .u8 0, .int .u8 0, .int .u8 0, .int .u8 0, .int .u8 0, .int .u8 0, .int .u8 0, .int .u8 0, .int .u8 0, .int .u8 0, .int .u8 0, .int .u8 0, .int .u8 0, .int .u8 0, .int .u8 0, .int .u8 0, .int .u8 0, .int .u8 0, .int .u8 0, .int .u8 0, .int .u8 0, .int .u8 0, .int .u8 0, .int .u8 0] 101)) wd.heap.size = true := Shp.tn_of (Blk.new wd _ _) rfl
      refine hK.out _ _ s26 (fun _ => ?_)
      clear hK K
      try simp only [Act.put, List.setIfInBounds_toArray, List.set_cons_zero, List.set_cons_succ]
      obtain ⟨u26w, hu26w⟩ : ∃ V, wd.alloc (.cells #[.int .u8 0, .int .u8 0, .int .u8 0, .int .u8 0, .int .u8 0, .int .u8 0, .int .u8 0, .int .u8 0, .int .u8 0, .int .u8 0, .int .u8 0, .int .u8 0, .int .u8 0, .int .u8 0, .int .u8 0, .int .u8 0, .int .u8 0, .int .u8 0, .int .u8 0, .int .u8 0, .int .u8 0, .int .u8 0, .int .u8 0, .int .u8 0, .int .u8 0] 101) = V := ⟨_, rfl⟩
      rw [hu26w] at s26 q26
      rw [hu26w]
      clear hu26w
      refine forkS 1 4 (by kernel_rfl) (by rfl) (by rfl) (fun o ho K hK => ?_) (fun o ho K hK => ?_)
      · simp only [List.getElem?_toArray, List.getElem?_cons_succ, List.getElem?_cons_zero, Option.some.injEq] at ho; subst ho
        go_simp
        (go_at_call 44; (with_reducible refine (top_nil _).mono ?_); rintro e u27w ⟨rfl, hu27w⟩)
        have b27 : Below u26w.heap.size u26w u27w := by rw [hu27w]; exact below_alloc_ _ _
        have q27 : Blk u27w u26w.heap.size 73 #[.pointer none] := by rw [hu27w]; exact Blk.new _ _ _
        have s27 : Below w0.heap.size w0 u27w := below_up s26 s26.size b27
        have t5_27 := Shp.tn_on q26 b27
        have ne1_5 : u26w.heap.size ≠ wd.heap.size := Nat.ne_of_gt (Shp.tn_lt q26)
        refine hK.out _ _ s27 (fun _ => ?_)
        clear hK K
        try simp only [Act.put, List.setIfInBounds_toArray, List.set_cons_zero, List.set_cons_succ]
        clear hu27w
        refine forkS 3 4 (by kernel_rfl) (by rfl) (by rfl) (fun o ho K hK => ?_) (fun o ho K hK => ?_)
        · simp only [List.getElem?_toArray, List.getElem?_cons_succ, List.getElem?_cons_zero, Option.some.injEq] at ho; subst ho
          go_simp
          (go_at_call 41; (with_reducible refine (CB.out _).mono ?_); rintro e u28w ⟨rfl, b28⟩)
          have s28 : Below w0.heap.size w0 u28w := below_up s27 s27.size b28
          have t5_28 := Shp.tn_on t5_27 b28
          have t1_28 := Blk.on q27 b28
          refine hK.out _ _ s28 (fun _ => ?_)
          clear hK K
          try simp only [Act.put, List.setIfInBounds_toArray, List.set_cons_zero, List.set_cons_succ]
          refine nextS 4 (by kernel_rfl) (by rfl) (fun o ho K hK => ?_)
          simp only [List.getElem?_toArray, List.getElem?_cons_succ, List.getElem?_cons_zero, Option.some.injEq] at ho; subst ho
          go_simp
          have s29 : Below w0.heap.size w0 (u28w.alloc (.cells #[.pointer none] 92)) := s28.alloc s28.size _
          have q29 : Blk (u28w.alloc (.cells #[.pointer none] 92)) u28w.heap.size 92 #[.pointer none] := Blk.new u28w _ _
          have t5_29 := Shp.tn_on t5_28 (below_alloc_ u28w (.cells #[.pointer none] 92))
          have ne4_5 : u28w.heap.size ≠ wd.heap.size := Nat.ne_of_gt (Shp.tn_lt t5_28)
          have t1_29 := Blk.on t1_28 (below_alloc_ u28w (.cells #[.pointer none] 92))
          have ne1_4 : u26w.heap.size ≠ u28w.heap.size := Nat.ne_of_lt (Blk.lt t1_28)
          refine hK.out _ _ s29 (fun _ => ?_)
          clear hK K
          try simp only [Act.put, List.setIfInBounds_toArray, List.set_cons_zero, List.set_cons_succ]
          obtain ⟨u29w, hu29w⟩ : ∃ V, u28w.alloc (.cells #[.pointer none] 92) = V := ⟨_, rfl⟩
          rw [hu29w] at s29 q29 t5_29 t1_29
          rw [hu29w]
          clear hu29w
          have hc4 := q29.cell
          have hf4 := q29.free
          have B4 : Blk (u29w.setCell ⟨u28w.heap.size, 0, none⟩ (.pointer (some ⟨u26w.heap.size, 0, none⟩))) (u28w.heap.size) 92 #[(.pointer (some ⟨u26w.heap.size, 0, none⟩))] := q29.set_ _
          have t6 : Shp.tn 25 (u29w.setCell ⟨u28w.heap.size, 0, none⟩ (.pointer (some ⟨u26w.heap.size, 0, none⟩))) (wd.heap.size) = true := (Shp.tn_to (Below.heap_setCell _ _ _ _ (Ne.symm ne4_5))).trans t5_29
          refine nextS 6 (by kernel_rfl) (by rfl) (fun o ho K hK => ?_)
          simp only [List.getElem?_toArray, List.getElem?_cons_succ, List.getElem?_cons_zero, Option.some.injEq] at ho; subst ho
          go_simp
          have sA : Below w0.heap.size w0 (u29w.setCell ⟨u28w.heap.size, 0, none⟩ (.pointer (some ⟨u26w.heap.size, 0, none⟩))) := s29.setCell s28.size _
          refine hK.out _ _ sA (fun _ => ?_)
          clear hK K
          try simp only [Act.put, List.setIfInBounds_toArray, List.set_cons_zero, List.set_cons_succ]
          refine nextS 7 (by kernel_rfl) (by rfl) (fun o ho K hK => ?_)
          simp only [List.getElem?_toArray, List.getElem?_cons_succ, List.getElem?_cons_zero, Option.some.injEq] at ho; subst ho
          go_simp
          have sB : Below w0.heap.size w0 ((u29w.setCell ⟨u28w.heap.size, 0, none⟩ (.pointer (some ⟨u26w.heap.size, 0, none⟩))).setRow (wd.heap.size) (kS.v k)) := below_setRow sA sd.size _
          refine hK.out _ _ sB (fun _ => ?_)
          clear hK K
          try simp only [Act.put, List.setIfInBounds_toArray, List.set_cons_zero, List.set_cons_succ]
          refine wpAnyH_done (by kernel_rfl) ?_ _
          refine NoPanic.normal ?_
          have RB := Shp.rd_set (S := kS) (u29w.setCell ⟨u28w.heap.size, 0, none⟩ (.pointer (some ⟨u26w.heap.size, 0, none⟩))) (wd.heap.size) k t6
          have A4 : Blk ((u29w.setCell ⟨u28w.heap.size, 0, none⟩ (.pointer (some ⟨u26w.heap.size, 0, none⟩))).setRow (wd.heap.size) (kS.v k)) (u28w.heap.size) 92 #[(.pointer (some ⟨u26w.heap.size, 0, none⟩))] := ⟨(heap_setRow _ _ _ _ ne4_5).trans B4.out⟩
          have z4 : w0.heap.size ≤ u28w.heap.size := s28.size
          have z5 : w0.heap.size ≤ wd.heap.size := sd.size
          have A1 : Blk ((u29w.setCell ⟨u28w.heap.size, 0, none⟩ (.pointer (some ⟨u26w.heap.size, 0, none⟩))).setRow (wd.heap.size) (kS.v k)) (u26w.heap.size) 73 #[.pointer none] := ⟨(heap_setRow _ _ _ _ ne1_5).trans ((Below.heap_setCell _ _ _ _ ne1_4).trans (t1_29).out)⟩
          have z1 : w0.heap.size ≤ u26w.heap.size := s26.size
          go_wp2_with fail
          go_meet
          exact ⟨_, _, _, rfl, rfl, A4, RB, z4, z5, A1, z1, sB⟩
        · simp only [List.getElem?_toArray, List.getElem?_cons_succ, List.getElem?_cons_zero, Option.some.injEq] at ho; subst ho
          go_simp
          have s30 : Below w0.heap.size w0 (u27w.alloc (.cells #[.pointer none] 92)) := s27.alloc s27.size _
          have q30 : Blk (u27w.alloc (.cells #[.pointer none] 92)) u27w.heap.size 92 #[.pointer none] := Blk.new u27w _ _
          have t5_30 := Shp.tn_on t5_27 (below_alloc_ u27w (.cells #[.pointer none] 92))
          have ne4_5 : u27w.heap.size ≠ wd.heap.size := Nat.ne_of_gt (Shp.tn_lt t5_27)
          have t1_30 := Blk.on q27 (below_alloc_ u27w (.cells #[.pointer none] 92))
          have ne1_4 : u26w.heap.size ≠ u27w.heap.size := Nat.ne_of_lt (Blk.lt q27)
          refine hK.out _ _ s30 (fun _ => ?_)
          clear hK K
          try simp only [Act.put, List.setIfInBounds_toArray, List.set_cons_zero, List.set_cons_succ]
          obtain ⟨u30w, hu30w⟩ : ∃ V, u27w.alloc (.cells #[.pointer none] 92) = V := ⟨_, rfl⟩
          rw [hu30w] at s30 q30 t5_30 t1_30
          rw [hu30w]
          clear hu30w
          refine nextS 3 (by kernel_rfl) (by rfl) (fun o ho K hK => ?_)
          simp only [List.getElem?_toArray, List.getElem?_cons_succ, List.getElem?_cons_zero, Option.some.injEq] at ho; subst ho
          go_simp
          (go_at_call 41; (with_reducible refine (CB.out _).mono ?_); rintro e u31w ⟨rfl, b31⟩)
          have s31 : Below w0.heap.size w0 u31w := below_up s30 s30.size b31
          have t5_31 := Shp.tn_on t5_30 b31
          have t1_31 := Blk.on t1_30 b31
          have t4_31 := Blk.on q30 b31
          refine hK.out _ _ s31 (fun _ => ?_)
          clear hK K
          try simp only [Act.put, List.setIfInBounds_toArray, List.set_cons_zero, List.set_cons_succ]
          have hc4 := t4_31.cell
          have hf4 := t4_31.free
          have B4 : Blk (u31w.setCell ⟨u27w.heap.size, 0, none⟩ (.pointer (some ⟨u26w.heap.size, 0, none⟩))) (u27w.heap.size) 92 #[(.pointer (some ⟨u26w.heap.size, 0, none⟩))] := t4_31.set_ _
          have t6 : Shp.tn 25 (u31w.setCell ⟨u27w.heap.size, 0, none⟩ (.pointer (some ⟨u26w.heap.size, 0, none⟩))) (wd.heap.size) = true := (Shp.tn_to (Below.heap_setCell _ _ _ _ (Ne.symm ne4_5))).trans t5_31
          refine nextS 6 (by kernel_rfl) (by rfl) (fun o ho K hK => ?_)
          simp only [List.getElem?_toArray, List.getElem?_cons_succ, List.getElem?_cons_zero, Option.some.injEq] at ho; subst ho
          go_simp
          have sA : Below w0.heap.size w0 (u31w.setCell ⟨u27w.heap.size, 0, none⟩ (.pointer (some ⟨u26w.heap.size, 0, none⟩))) := s31.setCell s27.size _
          refine hK.out _ _ sA (fun _ => ?_)
          clear hK K
          try simp only [Act.put, List.setIfInBounds_toArray, List.set_cons_zero, List.set_cons_succ]
          refine nextS 7 (by kernel_rfl) (by rfl) (fun o ho K hK => ?_)
          simp only [List.getElem?_toArray, List.getElem?_cons_succ, List.getElem?_cons_zero, Option.some.injEq] at ho; subst ho
          go_simp
          have sB : Below w0.heap.size w0 ((u31w.setCell ⟨u27w.heap.size, 0, none⟩ (.pointer (some ⟨u26w.heap.size, 0, none⟩))).setRow (wd.heap.size) (kS.v k)) := below_setRow sA sd.size _
          refine hK.out _ _ sB (fun _ => ?_)
          clear hK K
          try simp only [Act.put, List.setIfInBounds_toArray, List.set_cons_zero, List.set_cons_succ]
          refine wpAnyH_done (by kernel_rfl) ?_ _
          refine NoPanic.normal ?_
          have RB := Shp.rd_set (S := kS) (u31w.setCell ⟨u27w.heap.size, 0, none⟩ (.pointer (some ⟨u26w.heap.size, 0, none⟩))) (wd.heap.size) k t6
          have A4 : Blk ((u31w.setCell ⟨u27w.heap.size, 0, none⟩ (.pointer (some ⟨u26w.heap.size, 0, none⟩))).setRow (wd.heap.size) (kS.v k)) (u27w.heap.size) 92 #[(.pointer (some ⟨u26w.heap.size, 0, none⟩))] := ⟨(heap_setRow _ _ _ _ ne4_5).trans B4.out⟩
          have z4 : w0.heap.size ≤ u27w.heap.size := s27.size
          have z5 : w0.heap.size ≤ wd.heap.size := sd.size
          have A1 : Blk ((u31w.setCell ⟨u27w.heap.size, 0, none⟩ (.pointer (some ⟨u26w.heap.size, 0, none⟩))).setRow (wd.heap.size) (kS.v k)) (u26w.heap.size) 73 #[.pointer none] := ⟨(heap_setRow _ _ _ _ ne1_5).trans ((Below.heap_setCell _ _ _ _ ne1_4).trans (t1_31).out)⟩
          have z1 : w0.heap.size ≤ u26w.heap.size := s26.size
          go_wp2_with fail
          go_meet
          exact ⟨_, _, _, rfl, rfl, A4, RB, z4, z5, A1, z1, sB⟩
      · simp only [List.getElem?_toArray, List.getElem?_cons_succ, List.getElem?_cons_zero, Option.some.injEq] at ho; subst ho
        go_simp
        have s32 : Below w0.heap.size w0 (u26w.alloc (.cells #[.pointer none] 92)) := s26.alloc s26.size _
        have q32 : Blk (u26w.alloc (.cells #[.pointer none] 92)) u26w.heap.size 92 #[.pointer none] := Blk.new u26w _ _
        have t5_32 := Shp.tn_on q26 (below_alloc_ u26w (.cells #[.pointer none] 92))
        have ne4_5 : u26w.heap.size ≠ wd.heap.size := Nat.ne_of_gt (Shp.tn_lt q26)
        refine hK.out _ _ s32 (fun _ => ?_)
        clear hK K
        try simp only [Act.put, List.setIfInBounds_toArray, List.set_cons_zero, List.set_cons_succ]
        obtain ⟨u32w, hu32w⟩ : ∃ V, u26w.alloc (.cells #[.pointer none] 92) = V := ⟨_, rfl⟩
        rw [hu32w] at s32 q32 t5_32
        rw [hu32w]
        clear hu32w
        refine nextS 1 (by kernel_rfl) (by rfl) (fun o ho K hK => ?_)
        simp only [List.getElem?_toArray, List.getElem?_cons_succ, List.getElem?_cons_zero, Option.some.injEq] at ho; subst ho
        go_simp
        (go_at_call 44; (with_reducible refine (top_nil _).mono ?_); rintro e u33w ⟨rfl, hu33w⟩)
        have b33 : Below u32w.heap.size u32w u33w := by rw [hu33w]; exact below_alloc_ _ _
        have q33 : Blk u33w u32w.heap.size 73 #[.pointer none] := by rw [hu33w]; exact Blk.new _ _ _
        have s33 : Below w0.heap.size w0 u33w := below_up s32 s32.size b33
        have t5_33 := Shp.tn_on t5_32 b33
        have ne1_5 : u32w.heap.size ≠ wd.heap.size := Nat.ne_of_gt (Shp.tn_lt t5_32)
        have t4_33 := Blk.on q32 b33
        have ne1_4 : u32w.heap.size ≠ u26w.heap.size := Nat.ne_of_gt (Blk.lt q32)
        refine hK.out _ _ s33 (fun _ => ?_)
        clear hK K
        try simp only [Act.put, List.setIfInBounds_toArray, List.set_cons_zero, List.set_cons_succ]
        clear hu33w
        refine nextS 3 (by kernel_rfl) (by rfl) (fun o ho K hK => ?_)
        simp only [List.getElem?_toArray, List.getElem?_cons_succ, List.getElem?_cons_zero, Option.some.injEq] at ho; subst ho
        go_simp
        (go_at_call 41; (with_reducible refine (CB.out _).mono ?_); rintro e u34w ⟨rfl, b34⟩)
        have s34 : Below w0.heap.size w0 u34w := below_up s33 s33.size b34
        have t5_34 := Shp.tn_on t5_33 b34
        have t4_34 := Blk.on t4_33 b34
        have t1_34 := Blk.on q33 b34
        refine hK.out _ _ s34 (fun _ => ?_)
        clear hK K
        try simp only [Act.put, List.setIfInBounds_toArray, List.set_cons_zero, List.set_cons_succ]
        have hc4 := t4_34.cell
        have hf4 := t4_34.free
        have B4 : Blk (u34w.setCell ⟨u26w.heap.size, 0, none⟩ (.pointer (some ⟨u32w.heap.size, 0, none⟩))) (u26w.heap.size) 92 #[(.pointer (some ⟨u32w.heap.size, 0, none⟩))] := t4_34.set_ _
        have t6 : Shp.tn 25 (u34w.setCell ⟨u26w.heap.size, 0, none⟩ (.pointer (some ⟨u32w.heap.size, 0, none⟩))) (wd.heap.size) = true := (Shp.tn_to (Below.heap_setCell _ _ _ _ (Ne.symm ne4_5))).trans t5_34
        refine nextS 6 (by kernel_rfl) (by rfl) (fun o ho K hK => ?_)
        simp only [List.getElem?_toArray, List.getElem?_cons_succ, List.getElem?_cons_zero, Option.some.injEq] at ho; subst ho
        go_simp
        have sA : Below w0.heap.size w0 (u34w.setCell ⟨u26w.heap.size, 0, none⟩ (.pointer (some ⟨u32w.heap.size, 0, none⟩))) := s34.setCell s26.size _
        refine hK.out _ _ sA (fun _ => ?_)
        clear hK K
        try simp only [Act.put, List.setIfInBounds_toArray, List.set_cons_zero, List.set_cons_succ]
        refine nextS 7 (by kernel_rfl) (by rfl) (fun o ho K hK => ?_)
        simp only [List.getElem?_toArray, List.getElem?_cons_succ, List.getElem?_cons_zero, Option.some.injEq] at ho; subst ho
        go_simp
        have sB : Below w0.heap.size w0 ((u34w.setCell ⟨u26w.heap.size, 0, none⟩ (.pointer (some ⟨u32w.heap.size, 0, none⟩))).setRow (wd.heap.size) (kS.v k)) := below_setRow sA sd.size _
        refine hK.out _ _ sB (fun _ => ?_)
        clear hK K
        try simp only [Act.put, List.setIfInBounds_toArray, List.set_cons_zero, List.set_cons_succ]
        refine wpAnyH_done (by kernel_rfl) ?_ _
        refine NoPanic.normal ?_
        have RB := Shp.rd_set (S := kS) (u34w.setCell ⟨u26w.heap.size, 0, none⟩ (.pointer (some ⟨u32w.heap.size, 0, none⟩))) (wd.heap.size) k t6
        have A4 : Blk ((u34w.setCell ⟨u26w.heap.size, 0, none⟩ (.pointer (some ⟨u32w.heap.size, 0, none⟩))).setRow (wd.heap.size) (kS.v k)) (u26w.heap.size) 92 #[(.pointer (some ⟨u32w.heap.size, 0, none⟩))] := ⟨(heap_setRow _ _ _ _ ne4_5).trans B4.out⟩
        have z4 : w0.heap.size ≤ u26w.heap.size := s26.size
        have z5 : w0.heap.size ≤ wd.heap.size := sd.size
        have A1 : Blk ((u34w.setCell ⟨u26w.heap.size, 0, none⟩ (.pointer (some ⟨u32w.heap.size, 0, none⟩))).setRow (wd.heap.size) (kS.v k)) (u32w.heap.size) 73 #[.pointer none] := ⟨(heap_setRow _ _ _ _ ne1_5).trans ((Below.heap_setCell _ _ _ _ ne1_4).trans (t1_34).out)⟩
        have z1 : w0.heap.size ≤ u32w.heap.size := s32.size
        go_wp2_with fail
        go_meet
        exact ⟨_, _, _, rfl, rfl, A4, RB, z4, z5, A1, z1, sB⟩
  case rest =>
    obtain ⟨k7, k8, kt, rfl, rfl, B7, R8, z7, z8, Bt, zt, b1⟩ := hcut
    have f1 := Shp.rd_on f0 b1
    have bw := below_up b0 b0.size b1
    clear f0
    gi_wp2
    refine ⟨trivial, ?_⟩
    refine (callsIn_wide.2 (CP.out _)).mono ?_
    rintro e w3 ⟨rfl, hw3⟩
    have b3 : Below wc.heap.size wc w3 := by rw [hw3]; exact ((below_alloc_ _ _).alloc (by simp) _).alloc (by simp; omega) _
    have hz3 : w3.heap.size = wc.heap.size + 3 := by rw [hw3]; simp
    have ht3 : w3.cell? ⟨wc.heap.size, 0, none⟩ = some (.pointer none) := by
      rw [hw3]
      exact cell_kept_ (below_alloc_ _ _) (cell_kept_ (below_alloc_ _ _) (Blk.new wc _ _).cell)
    have hk3 : kS.rd w3 ⟨wc.heap.size + 1, 0, none⟩ = some k := by
      rw [hw3]
      exact Shp.rd_on (Shp.rd_new (S := kS) _ _ _ _ (by simp)) (below_alloc_ _ _)
    have hb3 : w3.cell? ⟨wc.heap.size + 2, 0, none⟩ = some (.int .i64 (d : Nat)) := by
      rw [hw3]
      have := (Blk.new ((wc.alloc (.cells #[.pointer none] 31)).alloc (.cells (kS.v k) 30)) 3 #[.int .i64 (d : Nat)]).cell
      simpa using this
    clear hw3
    have Bt3 := Bt.on b3
    have nt7 : kt ≠ k7 := blk_ne Bt B7 (by decide)
    have B73 := B7.on b3
    have R83 := Shp.rd_on R8 b3
    have l7 := B7.lt
    have l8 := Shp.rd_lt R8
    have n78 : k8 ≠ k7 := by
      intro e
      subst e
      obtain ⟨cs, hB, hs⟩ : ∃ cs, Blk wc k8 92 cs ∧ cs.size = 1 := ⟨_, B7, rfl⟩
      have h0 := kcell_at R8 (j := 1) (by omega)
      have h1 := B7.out
      simp [World.cell?, h1] at h0
    clear B7 R8 f1 Bt
    gi_wp2
    refine wpIn_rangeFunc_ownH rfl (by decide) (gf := 57) (lb := #[.pointer (some ⟨wc.heap.size + 1, 0, none⟩), .pointer (some ⟨wc.heap.size, 0, none⟩), .pointer (some ⟨wc.heap.size + 2, 0, none⟩)]) rfl trivial (enters_of Try.func57 (by kernel_rfl) rfl)
      (psn_stops 9 (by decide) (wc.heap.size + 1) wc.heap.size (wc.heap.size + 2) k d (Kp w3.heap.size [k7]) w3 hk3 ht3 hb3) (fun h k => h.trans k) (fun W l o o' h1 h2 h3 _ => Kp.put W l o o' h1 h2 h3) (Below.refl _ _) (fun _ => rfl)
      (fun pre W => Ov w3.heap.size [k7] w3 W ∧ Blk W k7 92 #[.pointer (some (plc k ⟨kt, 0, none⟩ (pre.map (·.1))))]) (fun _ _ _ => False)
      (fun s W W' row hs hg hr => ⟨hs.1.grown (Nat.le_refl _) hg fun r e => .inl (hr r e).1, (blk_own (t := 92) (fun s : List { t : Tk // t ∈ pth k d none } => #[.pointer (some (plc k ⟨kt, 0, none⟩ (s.map (·.1))))])) s W W' row hs.2 hg hr⟩) (fun _ _ _ _ _ hs _ _ => hs) ⟨Ov.refl _ _ _, B73⟩
      (fun y a' W => a' = { tmps := #[.pointer none, .agg (kS.v k), .int .i64 (d : Nat), undef, .pointer (some ⟨w.heap.size, 0, none⟩), undef, .pointer none, .pointer (some ⟨k7, 0, none⟩), .pointer (some ⟨k8, 0, none⟩), .pointer (some ⟨y.1.ad, 0, none⟩), u10, u11, u12, u13, .pointer none, .agg (kS.v k), .int .i64 (d : Nat), .func (.func 57) #[] #[.pointer (some ⟨wc.heap.size + 1, 0, none⟩), .pointer (some ⟨wc.heap.size, 0, none⟩), .pointer (some ⟨wc.heap.size + 2, 0, none⟩)], .pointer (some ⟨y.1.ad, 0, none⟩), u19, u20, u21, u22, u23, u24, u25, u26, u27, u28, u29], defers := [] })
      (fun _ _ _ _ _ _ hs _ _ => hs) ?assign ?body ?done ?stop
    case assign =>
      rintro l pre y W K hI hK
      gi_wp2
      exact hK _ _ (KeepsFrom.refl _ _) (Kp.refl _ _ _) hI rfl
    case body =>
      rintro l pre y a' W hl ⟨r, hr⟩ _ _ hlt
      exact absurd hlt (by simp [pth])
    case done =>
      rintro D0 ys W hD hp ⟨hO, hB⟩ hK
      have hc := hB.cell
      gi_wp2
      refine ⟨by simp, .inl ⟨_, _, rfl, run_takeDeferred hK, ?_⟩⟩
      have hys : ys = [] := by cases ys with
        | nil => rfl
        | cons y ys => cases hp
      subst hys
      have hO2 := hO.put hD (.deferred none)
      refine ⟨_, results_tmp rfl _ _ _, kt, rfl, by omega, ⟨(hO2.block kt (by have := Bt3.lt; omega) (by simpa using nt7)).trans Bt3.out⟩, ?_⟩
      exact (below_up bw bw.size b3).trans (hO2.below (by have := b3.size; have := bw.size; omega) (fun x hx => by simp at hx; omega))
    case stop =>
      rintro D0 c pre W _ _ h _
      exact h.elim
end Go.Proofs.Ytkhjnfplcaffnaa
