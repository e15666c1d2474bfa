/-
  
-/
import Derived.Test.YtjlaffgbmcpldaaGreatDoorG23
set_option linter.unusedVariables false
set_option linter.unusedSimpArgs false
set_option maxRecDepth 100000
namespace Go.Proofs.YtjlaffgbmcpldaaGreatDoor
open Go.RowKit Go.Shelf
attribute [local go_sem] Oper.semAt_some
attribute [local go_sem ↓] Go.wp_at_zero Go.wp_at_succ ld_k lv_k st_k eq_k ne_k bd_k ld_b lv_b st_b eq_b ne_b bd_25 ld_r lv_r st_rk eq_rk ne_rk bd_r ld_p lv_p st_px bd_p Nm.ld_a Nm.ld_n Nm.st_a Nm.st_n Nm.eq_a Nm.eq_n Nm.ne_a Nm.ne_n Nm.lv_a Nm.lv_n ld_a ld_n st_a st_n eq_a eq_n ne_a ne_n lv_a lv_n ld_l lv_l st_l bd_l bd_n bs_k
attribute [local go_sem] run_ldk run_lvk run_stk run_eqk run_nek run_bdk_z run_ldb run_lvb run_stb run_eqb run_neb run_ldr run_lvr run_strk run_eqrk run_nerk run_bdr_z run_ldp run_lvp run_stpx Nm.run_ld_a Nm.run_ld_n Nm.run_st_n Nm.run_eq_a Nm.run_eq_n Nm.run_ne_a Nm.run_ne_n Nm.run_lv_a Nm.run_lv_n Nm.rd_new Nm.rd_old Nm.rd_drew Nm.rd_drewN run_ld_a run_ld_n run_sw_a run_sw_n run_eq_a run_eq_n run_ne_a run_ne_n run_lv_a run_lv_n st_z ne_z eq_z rd_new rd_old rd_drew rd_drewN Shp.rd_new Shp.rd_old Shp.rd_drew Shp.rd_drewN Shp.rd_set Shp.tn_new Shp.tn_old Shp.tn_drew Shp.tn_drewN tn_new tn_old tn_drew tn_drewN rd_set setRow_alloc run_stn3 run_stt15 run_lvl run_ldl run_stl run_bdl run_bdn run_bdn0 run_bsk Shp.rd_extk cell_ext
set_option maxHeartbeats 16000000 in
theorem place_any (g : Nat) (o : Option Tk) (k : D.Ky) (d : Nat) (hd : d ≤ 200) (w : World) (hT : TR w g o) : Calls Tryz.prog 105 #[.pointer (some ⟨g, 0, none⟩), .agg (kS.v k), .int .i64 (d : Nat)] w fun e w' => e = .returned (.pointer (some (plc k ⟨g, 0, none⟩ (pth k d o)))) ∧ Below w.heap.size w w' := by
 have CB := Lib.hid (fun w => kbytes_any k w)
 have CP := Lib.hid (fun w => passed_any (some ⟨g, 0, none⟩) k (d : Nat) w)
 have CS := Lib.hid (fun i (hi : i < 200) w => side_any k i hi w)
 obtain ⟨w0, hw0⟩ : ∃ w0, w.alloc (.cells (kS.v k) 39) = w0 := ⟨_, rfl⟩
 have f0 : kS.rd w0 ⟨w.heap.size, 0, none⟩ = some k := by rw [← hw0]; exact Shp.rd_new _ _ _ _ rfl
 have b0 : Below w.heap.size w w0 := by rw [← hw0]; exact below_alloc_ _ _
 have hT0 := hT.on b0
 have hz0 : w.heap.size < w0.heap.size := by rw [← hw0]; simp
 refine (callsIn_wide (n := 10)).1 ?_
 refine callsIn_of_wp_marks Tryz.func105 rfl trivial ?_ rfl
 simp only [Tryz.ntmps105, List.size_toArray, List.length_cons, List.length_nil, Nat.reduceAdd, Nat.reduceSub, Array.replicate_succ, Array.replicate_zero, List.push_toArray, List.append_toArray, List.nil_append, List.cons_append]
 gi_wp2
 try rw [hw0]
 clear hw0
 refine wpIn_wide.2 ?_
 go_cut [7, 8] from 10 (fun s7 s8 wx => ∃ k7 k8 : Nat, s7 = .pointer (some ⟨k7, 0, none⟩) ∧ s8 = .pointer (some ⟨k8, 0, none⟩) ∧ Blk wx k7 208 #[.pointer (some ⟨g, 0, none⟩)] ∧ kS.rd wx ⟨k8, 0, none⟩ = some k ∧ w0.heap.size ≤ k7 ∧ w0.heap.size ≤ k8 ∧ Below w0.heap.size w0 wx)
 case first =>
  refine wp_region_noPanic ?_
  refine wp_region_held_drew (S := fun W => Below w0.heap.size w0 W) (by kernel_rfl) (Below.refl _ _).drew (fun _ => ?_)
  obtain ⟨wd, hwd⟩ : ∃ wd, w0.drew = wd := ⟨_, rfl⟩
  have sd : Below w0.heap.size w0 wd := by rw [← hwd]; exact (Below.refl _ _).drew
  rw [hwd]
  clear hwd
  refine takeT 0 (some 10) ?vr0 ?hyr0 sd ?restr0
  case hyr0 => (intro o ho W hW; simp only [gT, gS, gZ, sI] at ho; subst ho; (try dsimp only at hW); go_simp; try rfl)
  try simp only [Act.put, iT, iZ, iS]
  refine takeT 2 (some 12) ?vr2 ?hyr2 sd ?restr2
  case hyr2 => (intro o ho W hW; simp only [gT, gS, gZ, sI] at ho; subst ho; (try dsimp only at hW); have g0 := Shp.rd_on f0 hW; go_simp; try rfl)
  try simp only [Act.put, iT, iZ, iS]
  refine fork3 1 4 5 (by kernel_rfl) (by rfl) (by rfl) (by rfl) (fun o ho K hK => ?_) (fun o ho K hK => ?_) (fun o ho K hK => ?_)
  ·simp only [gT, gS, gZ, sI] at ho; subst ho
   go_simp
   (go_at_call 134; (with_reducible refine (top_any g _).mono ?_); rintro e u1x ⟨rfl, rfl⟩)
   refine hK.out _ _ sd (fun _ => ?_)
   clear hK K
   try simp only [Act.put, iT, iZ, iS]
   refine fork3 3 4 5 (by kernel_rfl) (by rfl) (by rfl) (by rfl) (fun o ho K hK => ?_) (fun o ho K hK => ?_) (fun o ho K hK => ?_)
   ·simp only [gT, gS, gZ, sI] at ho; subst ho
    go_simp
    (go_at_call 131; (with_reducible refine (CB.out _).mono ?_); rintro e u2w ⟨rfl, b2⟩)
    have s2 : Below w0.heap.size w0 u2w := below_up sd sd.size b2
    refine hK.out _ _ s2 (fun _ => ?_)
    clear hK K
    try simp only [Act.put, iT, iZ, iS]
    refine forkS 4 5 (by kernel_rfl) (by rfl) (by rfl) (fun o ho K hK => ?_) (fun o ho K hK => ?_)
    ·simp only [gT, gS, gZ, sI] at ho; subst ho
     go_simp
     have s3 : Below w0.heap.size w0 (u2w.alloc (.cells #[.pointer none] 208)) := s2.alloc s2.size _
     have q3 : Blk (u2w.alloc (.cells #[.pointer none] 208)) u2w.heap.size 208 #[.pointer none] := Blk.new u2w _ _
     refine hK.out _ _ s3 (fun _ => ?_)
     clear hK K
     try simp only [Act.put, iT, iZ, iS]
     obtain ⟨u3w, hu3w⟩ : ∃ V, u2w.alloc (.cells #[.pointer none] 208) = V := ⟨_, rfl⟩
     rw [hu3w] at s3 q3
     rw [hu3w]
     clear hu3w
     refine nextS 5 (by kernel_rfl) (by rfl) (fun o ho K hK => ?_)
     simp only [gT, gS, gZ, sI] at ho; subst ho
     go_simp
     have s4 : Below w0.heap.size w0 (u3w.alloc (.cells #[.int .u8 0, .int .u8 0, .int .u8 0, .int .u8 0, .int .u8 0, .int .u8 0, .int .u8 0, .int .u8 0, .int .u8 0, .int .u8 0, .int .u8 0, .int .u8 0, .int .u8 0, .int .u8 0, .int .u8 0, .int .u8 0, .int .u8 0, .int .u8 0, .int .u8 0, .int .u8 0, .int .u8 0, .int .u8 0, .int .u8 0, .int .u8 0, .int .u8 0] 201)) := s3.alloc s3.size _
     have q4 : Shp.tn 25 (u3w.alloc (.cells #[.int .u8 0, .int .u8 0, .int .u8 0, .int .u8 0, .int .u8 0, .int .u8 0, .int .u8 0, .int .u8 0, .int .u8 0, .int .u8 0, .int .u8 0, .int .u8 0, .int .u8 0, .int .u8 0, .int .u8 0, .int .u8 0, .int .u8 0, .int .u8 0, .int .u8 0, .int .u8 0, .int .u8 0, .int .u8 0, .int .u8 0, .int .u8 0, .int .u8 0] 201)) u3w.heap.size = true := Shp.tn_of (Blk.new u3w _ _) rfl
     have t4_4 := Blk.on q3 (below_alloc_ u3w (.cells #[.int .u8 0, .int .u8 0, .int .u8 0, .int .u8 0, .int .u8 0, .int .u8 0, .int .u8 0, .int .u8 0, .int .u8 0, .int .u8 0, .int .u8 0, .int .u8 0, .int .u8 0, .int .u8 0, .int .u8 0, .int .u8 0, .int .u8 0, .int .u8 0, .int .u8 0, .int .u8 0, .int .u8 0, .int .u8 0, .int .u8 0, .int .u8 0, .int .u8 0] 201))
     have ne4_5 : u2w.heap.size ≠ u3w.heap.size := Nat.ne_of_lt (Blk.lt q3)
     refine hK.out _ _ s4 (fun _ => ?_)
     clear hK K
     try simp only [Act.put, iT, iZ, iS]
     obtain ⟨u4w, hu4w⟩ : ∃ V, u3w.alloc (.cells #[.int .u8 0, .int .u8 0, .int .u8 0, .int .u8 0, .int .u8 0, .int .u8 0, .int .u8 0, .int .u8 0, .int .u8 0, .int .u8 0, .int .u8 0, .int .u8 0, .int .u8 0, .int .u8 0, .int .u8 0, .int .u8 0, .int .u8 0, .int .u8 0, .int .u8 0, .int .u8 0, .int .u8 0, .int .u8 0, .int .u8 0, .int .u8 0, .int .u8 0] 201) = V := ⟨_, rfl⟩
     rw [hu4w] at s4 q4 t4_4
     rw [hu4w]
     clear hu4w
     have hc4 := t4_4.cell
     have hf4 := t4_4.free
     have B4 : Blk (u4w.setCell ⟨u2w.heap.size, 0, none⟩ (.pointer (some ⟨g, 0, none⟩))) (u2w.heap.size) 208 #[(.pointer (some ⟨g, 0, none⟩))] := t4_4.set_ _
     have t6 : Shp.tn 25 (u4w.setCell ⟨u2w.heap.size, 0, none⟩ (.pointer (some ⟨g, 0, none⟩))) (u3w.heap.size) = true := (Shp.tn_to (Below.heap_setCell _ _ _ _ (Ne.symm ne4_5))).trans q4
     refine nextS 6 (by kernel_rfl) (by rfl) (fun o ho K hK => ?_)
     simp only [gT, gS, gZ, sI] at ho; subst ho
     go_simp
     have sA : Below w0.heap.size w0 (u4w.setCell ⟨u2w.heap.size, 0, none⟩ (.pointer (some ⟨g, 0, none⟩))) := s4.setCell s2.size _
     refine hK.out _ _ sA (fun _ => ?_)
     clear hK K
     try simp only [Act.put, iT, iZ, iS]
     refine nextS 7 (by kernel_rfl) (by rfl) (fun o ho K hK => ?_)
     simp only [gT, gS, gZ, sI] at ho; subst ho
     go_simp
     have sB : Below w0.heap.size w0 ((u4w.setCell ⟨u2w.heap.size, 0, none⟩ (.pointer (some ⟨g, 0, none⟩))).setRow (u3w.heap.size) (kS.v k)) := below_setRow sA s3.size _
     refine hK.out _ _ sB (fun _ => ?_)
     clear hK K
     try simp only [Act.put, iT, iZ, iS]
     refine wpAnyH_done (by kernel_rfl) ?_ _
     refine NoPanic.normal ?_
     have RB := Shp.rd_set (S := kS) (u4w.setCell ⟨u2w.heap.size, 0, none⟩ (.pointer (some ⟨g, 0, none⟩))) (u3w.heap.size) k t6
     have A4 : Blk ((u4w.setCell ⟨u2w.heap.size, 0, none⟩ (.pointer (some ⟨g, 0, none⟩))).setRow (u3w.heap.size) (kS.v k)) (u2w.heap.size) 208 #[(.pointer (some ⟨g, 0, none⟩))] := ⟨(heap_setRow _ _ _ _ ne4_5).trans B4.out⟩
     have z4 : w0.heap.size ≤ u2w.heap.size := s2.size
     have z5 : w0.heap.size ≤ u3w.heap.size := s3.size
     go_wp2_with fail
     go_meet
     exact ⟨_, _, rfl, rfl, A4, RB, z4, z5, sB⟩
    ·simp only [gT, gS, gZ, sI] at ho; subst ho
     go_simp
     have s5 : Below w0.heap.size w0 (u2w.alloc (.cells #[.int .u8 0, .int .u8 0, .int .u8 0, .int .u8 0, .int .u8 0, .int .u8 0, .int .u8 0, .int .u8 0, .int .u8 0, .int .u8 0, .int .u8 0, .int .u8 0, .int .u8 0, .int .u8 0, .int .u8 0, .int .u8 0, .int .u8 0, .int .u8 0, .int .u8 0, .int .u8 0, .int .u8 0, .int .u8 0, .int .u8 0, .int .u8 0, .int .u8 0] 201)) := s2.alloc s2.size _
     have q5 : Shp.tn 25 (u2w.alloc (.cells #[.int .u8 0, .int .u8 0, .int .u8 0, .int .u8 0, .int .u8 0, .int .u8 0, .int .u8 0, .int .u8 0, .int .u8 0, .int .u8 0, .int .u8 0, .int .u8 0, .int .u8 0, .int .u8 0, .int .u8 0, .int .u8 0, .int .u8 0, .int .u8 0, .int .u8 0, .int .u8 0, .int .u8 0, .int .u8 0, .int .u8 0, .int .u8 0, .int .u8 0] 201)) u2w.heap.size = true := Shp.tn_of (Blk.new u2w _ _) rfl
     refine hK.out _ _ s5 (fun _ => ?_)
     clear hK K
     try simp only [Act.put, iT, iZ, iS]
     obtain ⟨u5w, hu5w⟩ : ∃ V, u2w.alloc (.cells #[.int .u8 0, .int .u8 0, .int .u8 0, .int .u8 0, .int .u8 0, .int .u8 0, .int .u8 0, .int .u8 0, .int .u8 0, .int .u8 0, .int .u8 0, .int .u8 0, .int .u8 0, .int .u8 0, .int .u8 0, .int .u8 0, .int .u8 0, .int .u8 0, .int .u8 0, .int .u8 0, .int .u8 0, .int .u8 0, .int .u8 0, .int .u8 0, .int .u8 0] 201) = V := ⟨_, rfl⟩
     rw [hu5w] at s5 q5
     rw [hu5w]
     clear hu5w
     refine nextS 4 (by kernel_rfl) (by rfl) (fun o ho K hK => ?_)
     simp only [gT, gS, gZ, sI] at ho; subst ho
     go_simp
     have s6 : Below w0.heap.size w0 (u5w.alloc (.cells #[.pointer none] 208)) := s5.alloc s5.size _
     have q6 : Blk (u5w.alloc (.cells #[.pointer none] 208)) u5w.heap.size 208 #[.pointer none] := Blk.new u5w _ _
     have t5_6 := Shp.tn_on q5 (below_alloc_ u5w (.cells #[.pointer none] 208))
     have ne4_5 : u5w.heap.size ≠ u2w.heap.size := Nat.ne_of_gt (Shp.tn_lt q5)
     refine hK.out _ _ s6 (fun _ => ?_)
     clear hK K
     try simp only [Act.put, iT, iZ, iS]
     obtain ⟨u6w, hu6w⟩ : ∃ V, u5w.alloc (.cells #[.pointer none] 208) = V := ⟨_, rfl⟩
     rw [hu6w] at s6 q6 t5_6
     rw [hu6w]
     clear hu6w
     have hc4 := q6.cell
     have hf4 := q6.free
     have B4 : Blk (u6w.setCell ⟨u5w.heap.size, 0, none⟩ (.pointer (some ⟨g, 0, none⟩))) (u5w.heap.size) 208 #[(.pointer (some ⟨g, 0, none⟩))] := q6.set_ _
     have t6 : Shp.tn 25 (u6w.setCell ⟨u5w.heap.size, 0, none⟩ (.pointer (some ⟨g, 0, none⟩))) (u2w.heap.size) = true := (Shp.tn_to (Below.heap_setCell _ _ _ _ (Ne.symm ne4_5))).trans t5_6
     refine nextS 6 (by kernel_rfl) (by rfl) (fun o ho K hK => ?_)
     simp only [gT, gS, gZ, sI] at ho; subst ho
     go_simp
     have sA : Below w0.heap.size w0 (u6w.setCell ⟨u5w.heap.size, 0, none⟩ (.pointer (some ⟨g, 0, none⟩))) := s6.setCell s5.size _
     refine hK.out _ _ sA (fun _ => ?_)
     clear hK K
     try simp only [Act.put, iT, iZ, iS]
     refine nextS 7 (by kernel_rfl) (by rfl) (fun o ho K hK => ?_)
     simp only [gT, gS, gZ, sI] at ho; subst ho
     go_simp
     have sB : Below w0.heap.size w0 ((u6w.setCell ⟨u5w.heap.size, 0, none⟩ (.pointer (some ⟨g, 0, none⟩))).setRow (u2w.heap.size) (kS.v k)) := below_setRow sA s2.size _
     refine hK.out _ _ sB (fun _ => ?_)
     clear hK K
     try simp only [Act.put, iT, iZ, iS]
     refine wpAnyH_done (by kernel_rfl) ?_ _
     refine NoPanic.normal ?_
     have RB := Shp.rd_set (S := kS) (u6w.setCell ⟨u5w.heap.size, 0, none⟩ (.pointer (some ⟨g, 0, none⟩))) (u2w.heap.size) k t6
     have A4 : Blk ((u6w.setCell ⟨u5w.heap.size, 0, none⟩ (.pointer (some ⟨g, 0, none⟩))).setRow (u2w.heap.size) (kS.v k)) (u5w.heap.size) 208 #[(.pointer (some ⟨g, 0, none⟩))] := ⟨(heap_setRow _ _ _ _ ne4_5).trans B4.out⟩
     have z4 : w0.heap.size ≤ u5w.heap.size := s5.size
     have z5 : w0.heap.size ≤ u2w.heap.size := s2.size
     go_wp2_with fail
     go_meet
     exact ⟨_, _, rfl, rfl, A4, RB, z4, z5, sB⟩
   ·simp only [gT, gS, gZ, sI] at ho; subst ho
    go_simp
    have s7 : Below w0.heap.size w0 (wd.alloc (.cells #[.pointer none] 208)) := sd.alloc sd.size _
    have q7 : Blk (wd.alloc (.cells #[.pointer none] 208)) wd.heap.size 208 #[.pointer none] := Blk.new wd _ _
    refine hK.out _ _ s7 (fun _ => ?_)
    clear hK K
    try simp only [Act.put, iT, iZ, iS]
    obtain ⟨u7w, hu7w⟩ : ∃ V, wd.alloc (.cells #[.pointer none] 208) = V := ⟨_, rfl⟩
    rw [hu7w] at s7 q7
    rw [hu7w]
    clear hu7w
    refine forkS 3 5 (by kernel_rfl) (by rfl) (by rfl) (fun o ho K hK => ?_) (fun o ho K hK => ?_)
    ·simp only [gT, gS, gZ, sI] at ho; subst ho
     go_simp
     (go_at_call 131; (with_reducible refine (CB.out _).mono ?_); rintro e u8w ⟨rfl, b8⟩)
     have s8 : Below w0.heap.size w0 u8w := below_up s7 s7.size b8
     have t4_8 := Blk.on q7 b8
     refine hK.out _ _ s8 (fun _ => ?_)
     clear hK K
     try simp only [Act.put, iT, iZ, iS]
     refine nextS 5 (by kernel_rfl) (by rfl) (fun o ho K hK => ?_)
     simp only [gT, gS, gZ, sI] at ho; subst ho
     go_simp
     have s9 : Below w0.heap.size w0 (u8w.alloc (.cells #[.int .u8 0, .int .u8 0, .int .u8 0, .int .u8 0, .int .u8 0, .int .u8 0, .int .u8 0, .int .u8 0, .int .u8 0, .int .u8 0, .int .u8 0, .int .u8 0, .int .u8 0, .int .u8 0, .int .u8 0, .int .u8 0, .int .u8 0, .int .u8 0, .int .u8 0, .int .u8 0, .int .u8 0, .int .u8 0, .int .u8 0, .int .u8 0, .int .u8 0] 201)) := s8.alloc s8.size _
     have q9 : Shp.tn 25 (u8w.alloc (.cells #[.int .u8 0, .int .u8 0, .int .u8 0, .int .u8 0, .int .u8 0, .int .u8 0, .int .u8 0, .int .u8 0, .int .u8 0, .int .u8 0, .int .u8 0, .int .u8 0, .int .u8 0, .int .u8 0, .int .u8 0, .int .u8 0, .int .u8 0, .int .u8 0, .int .u8 0, .int .u8 0, .int .u8 0, .int .u8 0, .int .u8 0, .int .u8 0, .int .u8 0] 201)) u8w.heap.size = true := Shp.tn_of (Blk.new u8w _ _) rfl
     have t4_9 := Blk.on t4_8 (below_alloc_ u8w (.cells #[.int .u8 0, .int .u8 0, .int .u8 0, .int .u8 0, .int .u8 0, .int .u8 0, .int .u8 0, .int .u8 0, .int .u8 0, .int .u8 0, .int .u8 0, .int .u8 0, .int .u8 0, .int .u8 0, .int .u8 0, .int .u8 0, .int .u8 0, .int .u8 0, .int .u8 0, .int .u8 0, .int .u8 0, .int .u8 0, .int .u8 0, .int .u8 0, .int .u8 0] 201))
     have ne4_5 : wd.heap.size ≠ u8w.heap.size := Nat.ne_of_lt (Blk.lt t4_8)
     refine hK.out _ _ s9 (fun _ => ?_)
     clear hK K
     try simp only [Act.put, iT, iZ, iS]
     obtain ⟨u9w, hu9w⟩ : ∃ V, u8w.alloc (.cells #[.int .u8 0, .int .u8 0, .int .u8 0, .int .u8 0, .int .u8 0, .int .u8 0, .int .u8 0, .int .u8 0, .int .u8 0, .int .u8 0, .int .u8 0, .int .u8 0, .int .u8 0, .int .u8 0, .int .u8 0, .int .u8 0, .int .u8 0, .int .u8 0, .int .u8 0, .int .u8 0, .int .u8 0, .int .u8 0, .int .u8 0, .int .u8 0, .int .u8 0] 201) = V := ⟨_, rfl⟩
     rw [hu9w] at s9 q9 t4_9
     rw [hu9w]
     clear hu9w
     have hc4 := t4_9.cell
     have hf4 := t4_9.free
     have B4 : Blk (u9w.setCell ⟨wd.heap.size, 0, none⟩ (.pointer (some ⟨g, 0, none⟩))) (wd.heap.size) 208 #[(.pointer (some ⟨g, 0, none⟩))] := t4_9.set_ _
     have t6 : Shp.tn 25 (u9w.setCell ⟨wd.heap.size, 0, none⟩ (.pointer (some ⟨g, 0, none⟩))) (u8w.heap.size) = true := (Shp.tn_to (Below.heap_setCell _ _ _ _ (Ne.symm ne4_5))).trans q9
     refine nextS 6 (by kernel_rfl) (by rfl) (fun o ho K hK => ?_)
     simp only [gT, gS, gZ, sI] at ho; subst ho
     go_simp
     have sA : Below w0.heap.size w0 (u9w.setCell ⟨wd.heap.size, 0, none⟩ (.pointer (some ⟨g, 0, none⟩))) := s9.setCell sd.size _
     refine hK.out _ _ sA (fun _ => ?_)
     clear hK K
     try simp only [Act.put, iT, iZ, iS]
     refine nextS 7 (by kernel_rfl) (by rfl) (fun o ho K hK => ?_)
     simp only [gT, gS, gZ, sI] at ho; subst ho
     go_simp
     have sB : Below w0.heap.size w0 ((u9w.setCell ⟨wd.heap.size, 0, none⟩ (.pointer (some ⟨g, 0, none⟩))).setRow (u8w.heap.size) (kS.v k)) := below_setRow sA s8.size _
     refine hK.out _ _ sB (fun _ => ?_)
     clear hK K
     try simp only [Act.put, iT, iZ, iS]
     refine wpAnyH_done (by kernel_rfl) ?_ _
     refine NoPanic.normal ?_
     have RB := Shp.rd_set (S := kS) (u9w.setCell ⟨wd.heap.size, 0, none⟩ (.pointer (some ⟨g, 0, none⟩))) (u8w.heap.size) k t6
     have A4 : Blk ((u9w.setCell ⟨wd.heap.size, 0, none⟩ (.pointer (some ⟨g, 0, none⟩))).setRow (u8w.heap.size) (kS.v k)) (wd.heap.size) 208 #[(.pointer (some ⟨g, 0, none⟩))] := ⟨(heap_setRow _ _ _ _ ne4_5).trans B4.out⟩
     have z4 : w0.heap.size ≤ wd.heap.size := sd.size
     have z5 : w0.heap.size ≤ u8w.heap.size := s8.size
     go_wp2_with fail
     go_meet
     exact ⟨_, _, rfl, rfl, A4, RB, z4, z5, sB⟩
    ·simp only [gT, gS, gZ, sI] at ho; subst ho
     go_simp
     have s10 : Below w0.heap.size w0 (u7w.alloc (.cells #[.int .u8 0, .int .u8 0, .int .u8 0, .int .u8 0, .int .u8 0, .int .u8 0, .int .u8 0, .int .u8 0, .int .u8 0, .int .u8 0, .int .u8 0, .int .u8 0, .int .u8 0, .int .u8 0, .int .u8 0, .int .u8 0, .int .u8 0, .int .u8 0, .int .u8 0, .int .u8 0, .int .u8 0, .int .u8 0, .int .u8 0, .int .u8 0, .int .u8 0] 201)) := s7.alloc s7.size _
     have q10 : Shp.tn 25 (u7w.alloc (.cells #[.int .u8 0, .int .u8 0, .int .u8 0, .int .u8 0, .int .u8 0, .int .u8 0, .int .u8 0, .int .u8 0, .int .u8 0, .int .u8 0, .int .u8 0, .int .u8 0, .int .u8 0, .int .u8 0, .int .u8 0, .int .u8 0, .int .u8 0, .int .u8 0, .int .u8 0, .int .u8 0, .int .u8 0, .int .u8 0, .int .u8 0, .int .u8 0, .int .u8 0] 201)) u7w.heap.size = true := Shp.tn_of (Blk.new u7w _ _) rfl
     have t4_10 := Blk.on q7 (below_alloc_ u7w (.cells #[.int .u8 0, .int .u8 0, .int .u8 0, .int .u8 0, .int .u8 0, .int .u8 0, .int .u8 0, .int .u8 0, .int .u8 0, .int .u8 0, .int .u8 0, .int .u8 0, .int .u8 0, .int .u8 0, .int .u8 0, .int .u8 0, .int .u8 0, .int .u8 0, .int .u8 0, .int .u8 0, .int .u8 0, .int .u8 0, .int .u8 0, .int .u8 0, .int .u8 0] 201))
     have ne4_5 : wd.heap.size ≠ u7w.heap.size := Nat.ne_of_lt (Blk.lt q7)
     refine hK.out _ _ s10 (fun _ => ?_)
     clear hK K
     try simp only [Act.put, iT, iZ, iS]
     obtain ⟨u10w, hu10w⟩ : ∃ V, u7w.alloc (.cells #[.int .u8 0, .int .u8 0, .int .u8 0, .int .u8 0, .int .u8 0, .int .u8 0, .int .u8 0, .int .u8 0, .int .u8 0, .int .u8 0, .int .u8 0, .int .u8 0, .int .u8 0, .int .u8 0, .int .u8 0, .int .u8 0, .int .u8 0, .int .u8 0, .int .u8 0, .int .u8 0, .int .u8 0, .int .u8 0, .int .u8 0, .int .u8 0, .int .u8 0] 201) = V := ⟨_, rfl⟩
     rw [hu10w] at s10 q10 t4_10
     rw [hu10w]
     clear hu10w
     refine nextS 3 (by kernel_rfl) (by rfl) (fun o ho K hK => ?_)
     simp only [gT, gS, gZ, sI] at ho; subst ho
     go_simp
     (go_at_call 131; (with_reducible refine (CB.out _).mono ?_); rintro e u11w ⟨rfl, b11⟩)
     have s11 : Below w0.heap.size w0 u11w := below_up s10 s10.size b11
     have t4_11 := Blk.on t4_10 b11
     have t5_11 := Shp.tn_on q10 b11
     refine hK.out _ _ s11 (fun _ => ?_)
     clear hK K
     try simp only [Act.put, iT, iZ, iS]
     have hc4 := t4_11.cell
     have hf4 := t4_11.free
     have B4 : Blk (u11w.setCell ⟨wd.heap.size, 0, none⟩ (.pointer (some ⟨g, 0, none⟩))) (wd.heap.size) 208 #[(.pointer (some ⟨g, 0, none⟩))] := t4_11.set_ _
     have t6 : Shp.tn 25 (u11w.setCell ⟨wd.heap.size, 0, none⟩ (.pointer (some ⟨g, 0, none⟩))) (u7w.heap.size) = true := (Shp.tn_to (Below.heap_setCell _ _ _ _ (Ne.symm ne4_5))).trans t5_11
     refine nextS 6 (by kernel_rfl) (by rfl) (fun o ho K hK => ?_)
     simp only [gT, gS, gZ, sI] at ho; subst ho
     go_simp
     have sA : Below w0.heap.size w0 (u11w.setCell ⟨wd.heap.size, 0, none⟩ (.pointer (some ⟨g, 0, none⟩))) := s11.setCell sd.size _
     refine hK.out _ _ sA (fun _ => ?_)
     clear hK K
     try simp only [Act.put, iT, iZ, iS]
     refine nextS 7 (by kernel_rfl) (by rfl) (fun o ho K hK => ?_)
     simp only [gT, gS, gZ, sI] at ho; subst ho
     go_simp
     have sB : Below w0.heap.size w0 ((u11w.setCell ⟨wd.heap.size, 0, none⟩ (.pointer (some ⟨g, 0, none⟩))).setRow (u7w.heap.size) (kS.v k)) := below_setRow sA s7.size _
     refine hK.out _ _ sB (fun _ => ?_)
     clear hK K
     try simp only [Act.put, iT, iZ, iS]
     refine wpAnyH_done (by kernel_rfl) ?_ _
     refine NoPanic.normal ?_
     have RB := Shp.rd_set (S := kS) (u11w.setCell ⟨wd.heap.size, 0, none⟩ (.pointer (some ⟨g, 0, none⟩))) (u7w.heap.size) k t6
     have A4 : Blk ((u11w.setCell ⟨wd.heap.size, 0, none⟩ (.pointer (some ⟨g, 0, none⟩))).setRow (u7w.heap.size) (kS.v k)) (wd.heap.size) 208 #[(.pointer (some ⟨g, 0, none⟩))] := ⟨(heap_setRow _ _ _ _ ne4_5).trans B4.out⟩
     have z4 : w0.heap.size ≤ wd.heap.size := sd.size
     have z5 : w0.heap.size ≤ u7w.heap.size := s7.size
     go_wp2_with fail
     go_meet
     exact ⟨_, _, rfl, rfl, A4, RB, z4, z5, sB⟩
   ·simp only [gT, gS, gZ, sI] at ho; subst ho
    go_simp
    have s12 : Below w0.heap.size w0 (wd.alloc (.cells #[.int .u8 0, .int .u8 0, .int .u8 0, .int .u8 0, .int .u8 0, .int .u8 0, .int .u8 0, .int .u8 0, .int .u8 0, .int .u8 0, .int .u8 0, .int .u8 0, .int .u8 0, .int .u8 0, .int .u8 0, .int .u8 0, .int .u8 0, .int .u8 0, .int .u8 0, .int .u8 0, .int .u8 0, .int .u8 0, .int .u8 0, .int .u8 0, .int .u8 0] 201)) := sd.alloc sd.size _
    have q12 : Shp.tn 25 (wd.alloc (.cells #[.int .u8 0, .int .u8 0, .int .u8 0, .int .u8 0, .int .u8 0, .int .u8 0, .int .u8 0, .int .u8 0, .int .u8 0, .int .u8 0, .int .u8 0, .int .u8 0, .int .u8 0, .int .u8 0, .int .u8 0, .int .u8 0, .int .u8 0, .int .u8 0, .int .u8 0, .int .u8 0, .int .u8 0, .int .u8 0, .int .u8 0, .int .u8 0, .int .u8 0] 201)) wd.heap.size = true := Shp.tn_of (Blk.new wd _ _) rfl
    refine hK.out _ _ s12 (fun _ => ?_)
    clear hK K
    try simp only [Act.put, iT, iZ, iS]
    obtain ⟨u12w, hu12w⟩ : ∃ V, wd.alloc (.cells #[.int .u8 0, .int .u8 0, .int .u8 0, .int .u8 0, .int .u8 0, .int .u8 0, .int .u8 0, .int .u8 0, .int .u8 0, .int .u8 0, .int .u8 0, .int .u8 0, .int .u8 0, .int .u8 0, .int .u8 0, .int .u8 0, .int .u8 0, .int .u8 0, .int .u8 0, .int .u8 0, .int .u8 0, .int .u8 0, .int .u8 0, .int .u8 0, .int .u8 0] 201) = V := ⟨_, rfl⟩
    rw [hu12w] at s12 q12
    rw [hu12w]
    clear hu12w
    refine forkS 3 4 (by kernel_rfl) (by rfl) (by rfl) (fun o ho K hK => ?_) (fun o ho K hK => ?_)
    ·simp only [gT, gS, gZ, sI] at ho; subst ho
     go_simp
     (go_at_call 131; (with_reducible refine (CB.out _).mono ?_); rintro e u13w ⟨rfl, b13⟩)
     have s13 : Below w0.heap.size w0 u13w := below_up s12 s12.size b13
     have t5_13 := Shp.tn_on q12 b13
     refine hK.out _ _ s13 (fun _ => ?_)
     clear hK K
     try simp only [Act.put, iT, iZ, iS]
     refine nextS 4 (by kernel_rfl) (by rfl) (fun o ho K hK => ?_)
     simp only [gT, gS, gZ, sI] at ho; subst ho
     go_simp
     have s14 : Below w0.heap.size w0 (u13w.alloc (.cells #[.pointer none] 208)) := s13.alloc s13.size _
     have q14 : Blk (u13w.alloc (.cells #[.pointer none] 208)) u13w.heap.size 208 #[.pointer none] := Blk.new u13w _ _
     have t5_14 := Shp.tn_on t5_13 (below_alloc_ u13w (.cells #[.pointer none] 208))
     have ne4_5 : u13w.heap.size ≠ wd.heap.size := Nat.ne_of_gt (Shp.tn_lt t5_13)
     refine hK.out _ _ s14 (fun _ => ?_)
     clear hK K
     try simp only [Act.put, iT, iZ, iS]
     obtain ⟨u14w, hu14w⟩ : ∃ V, u13w.alloc (.cells #[.pointer none] 208) = V := ⟨_, rfl⟩
     rw [hu14w] at s14 q14 t5_14
     rw [hu14w]
     clear hu14w
     have hc4 := q14.cell
     have hf4 := q14.free
     have B4 : Blk (u14w.setCell ⟨u13w.heap.size, 0, none⟩ (.pointer (some ⟨g, 0, none⟩))) (u13w.heap.size) 208 #[(.pointer (some ⟨g, 0, none⟩))] := q14.set_ _
     have t6 : Shp.tn 25 (u14w.setCell ⟨u13w.heap.size, 0, none⟩ (.pointer (some ⟨g, 0, none⟩))) (wd.heap.size) = true := (Shp.tn_to (Below.heap_setCell _ _ _ _ (Ne.symm ne4_5))).trans t5_14
     refine nextS 6 (by kernel_rfl) (by rfl) (fun o ho K hK => ?_)
     simp only [gT, gS, gZ, sI] at ho; subst ho
     go_simp
     have sA : Below w0.heap.size w0 (u14w.setCell ⟨u13w.heap.size, 0, none⟩ (.pointer (some ⟨g, 0, none⟩))) := s14.setCell s13.size _
     refine hK.out _ _ sA (fun _ => ?_)
     clear hK K
     try simp only [Act.put, iT, iZ, iS]
     refine nextS 7 (by kernel_rfl) (by rfl) (fun o ho K hK => ?_)
     simp only [gT, gS, gZ, sI] at ho; subst ho
     go_simp
     have sB : Below w0.heap.size w0 ((u14w.setCell ⟨u13w.heap.size, 0, none⟩ (.pointer (some ⟨g, 0, none⟩))).setRow (wd.heap.size) (kS.v k)) := below_setRow sA sd.size _
     refine hK.out _ _ sB (fun _ => ?_)
     clear hK K
     try simp only [Act.put, iT, iZ, iS]
     refine wpAnyH_done (by kernel_rfl) ?_ _
     refine NoPanic.normal ?_
     have RB := Shp.rd_set (S := kS) (u14w.setCell ⟨u13w.heap.size, 0, none⟩ (.pointer (some ⟨g, 0, none⟩))) (wd.heap.size) k t6
     have A4 : Blk ((u14w.setCell ⟨u13w.heap.size, 0, none⟩ (.pointer (some ⟨g, 0, none⟩))).setRow (wd.heap.size) (kS.v k)) (u13w.heap.size) 208 #[(.pointer (some ⟨g, 0, none⟩))] := ⟨(heap_setRow _ _ _ _ ne4_5).trans B4.out⟩
     have z4 : w0.heap.size ≤ u13w.heap.size := s13.size
     have z5 : w0.heap.size ≤ wd.heap.size := sd.size
     go_wp2_with fail
     go_meet
     exact ⟨_, _, rfl, rfl, A4, RB, z4, z5, sB⟩
    ·simp only [gT, gS, gZ, sI] at ho; subst ho
     go_simp
     have s15 : Below w0.heap.size w0 (u12w.alloc (.cells #[.pointer none] 208)) := s12.alloc s12.size _
     have q15 : Blk (u12w.alloc (.cells #[.pointer none] 208)) u12w.heap.size 208 #[.pointer none] := Blk.new u12w _ _
     have t5_15 := Shp.tn_on q12 (below_alloc_ u12w (.cells #[.pointer none] 208))
     have ne4_5 : u12w.heap.size ≠ wd.heap.size := Nat.ne_of_gt (Shp.tn_lt q12)
     refine hK.out _ _ s15 (fun _ => ?_)
     clear hK K
     try simp only [Act.put, iT, iZ, iS]
     obtain ⟨u15w, hu15w⟩ : ∃ V, u12w.alloc (.cells #[.pointer none] 208) = V := ⟨_, rfl⟩
     rw [hu15w] at s15 q15 t5_15
     rw [hu15w]
     clear hu15w
     refine nextS 3 (by kernel_rfl) (by rfl) (fun o ho K hK => ?_)
     simp only [gT, gS, gZ, sI] at ho; subst ho
     go_simp
     (go_at_call 131; (with_reducible refine (CB.out _).mono ?_); rintro e u16w ⟨rfl, b16⟩)
     have s16 : Below w0.heap.size w0 u16w := below_up s15 s15.size b16
     have t5_16 := Shp.tn_on t5_15 b16
     have t4_16 := Blk.on q15 b16
     refine hK.out _ _ s16 (fun _ => ?_)
     clear hK K
     try simp only [Act.put, iT, iZ, iS]
     have hc4 := t4_16.cell
     have hf4 := t4_16.free
     have B4 : Blk (u16w.setCell ⟨u12w.heap.size, 0, none⟩ (.pointer (some ⟨g, 0, none⟩))) (u12w.heap.size) 208 #[(.pointer (some ⟨g, 0, none⟩))] := t4_16.set_ _
     have t6 : Shp.tn 25 (u16w.setCell ⟨u12w.heap.size, 0, none⟩ (.pointer (some ⟨g, 0, none⟩))) (wd.heap.size) = true := (Shp.tn_to (Below.heap_setCell _ _ _ _ (Ne.symm ne4_5))).trans t5_16
     refine nextS 6 (by kernel_rfl) (by rfl) (fun o ho K hK => ?_)
     simp only [gT, gS, gZ, sI] at ho; subst ho
     go_simp
     have sA : Below w0.heap.size w0 (u16w.setCell ⟨u12w.heap.size, 0, none⟩ (.pointer (some ⟨g, 0, none⟩))) := s16.setCell s12.size _
     refine hK.out _ _ sA (fun _ => ?_)
     clear hK K
     try simp only [Act.put, iT, iZ, iS]
     refine nextS 7 (by kernel_rfl) (by rfl) (fun o ho K hK => ?_)
     simp only [gT, gS, gZ, sI] at ho; subst ho
     go_simp
     have sB : Below w0.heap.size w0 ((u16w.setCell ⟨u12w.heap.size, 0, none⟩ (.pointer (some ⟨g, 0, none⟩))).setRow (wd.heap.size) (kS.v k)) := below_setRow sA sd.size _
     refine hK.out _ _ sB (fun _ => ?_)
     clear hK K
     try simp only [Act.put, iT, iZ, iS]
     refine wpAnyH_done (by kernel_rfl) ?_ _
     refine NoPanic.normal ?_
     have RB := Shp.rd_set (S := kS) (u16w.setCell ⟨u12w.heap.size, 0, none⟩ (.pointer (some ⟨g, 0, none⟩))) (wd.heap.size) k t6
     have A4 : Blk ((u16w.setCell ⟨u12w.heap.size, 0, none⟩ (.pointer (some ⟨g, 0, none⟩))).setRow (wd.heap.size) (kS.v k)) (u12w.heap.size) 208 #[(.pointer (some ⟨g, 0, none⟩))] := ⟨(heap_setRow _ _ _ _ ne4_5).trans B4.out⟩
     have z4 : w0.heap.size ≤ u12w.heap.size := s12.size
     have z5 : w0.heap.size ≤ wd.heap.size := sd.size
     go_wp2_with fail
     go_meet
     exact ⟨_, _, rfl, rfl, A4, RB, z4, z5, sB⟩
  ·simp only [gT, gS, gZ, sI] at ho; subst ho
   go_simp
   have s17 : Below w0.heap.size w0 (wd.alloc (.cells #[.pointer none] 208)) := sd.alloc sd.size _
   have q17 : Blk (wd.alloc (.cells #[.pointer none] 208)) wd.heap.size 208 #[.pointer none] := Blk.new wd _ _
   refine hK.out _ _ s17 (fun _ => ?_)
   clear hK K
   try simp only [Act.put, iT, iZ, iS]
   obtain ⟨u17w, hu17w⟩ : ∃ V, wd.alloc (.cells #[.pointer none] 208) = V := ⟨_, rfl⟩
   rw [hu17w] at s17 q17
   rw [hu17w]
   clear hu17w
   refine forkS 1 5 (by kernel_rfl) (by rfl) (by rfl) (fun o ho K hK => ?_) (fun o ho K hK => ?_)
   ·simp only [gT, gS, gZ, sI] at ho; subst ho
    go_simp
    (go_at_call 134; (with_reducible refine (top_any g _).mono ?_); rintro e u18x ⟨rfl, rfl⟩)
    refine hK.out _ _ s17 (fun _ => ?_)
    clear hK K
    try simp only [Act.put, iT, iZ, iS]
    refine forkS 3 5 (by kernel_rfl) (by rfl) (by rfl) (fun o ho K hK => ?_) (fun o ho K hK => ?_)
    ·simp only [gT, gS, gZ, sI] at ho; subst ho
     go_simp
     (go_at_call 131; (with_reducible refine (CB.out _).mono ?_); rintro e u19w ⟨rfl, b19⟩)
     have s19 : Below w0.heap.size w0 u19w := below_up s17 s17.size b19
     have t4_19 := Blk.on q17 b19
     refine hK.out _ _ s19 (fun _ => ?_)
     clear hK K
     try simp only [Act.put, iT, iZ, iS]
     refine nextS 5 (by kernel_rfl) (by rfl) (fun o ho K hK => ?_)
     simp only [gT, gS, gZ, sI] at ho; subst ho
     go_simp
     have s20 : Below w0.heap.size w0 (u19w.alloc (.cells #[.int .u8 0, .int .u8 0, .int .u8 0, .int .u8 0, .int .u8 0, .int .u8 0, .int .u8 0, .int .u8 0, .int .u8 0, .int .u8 0, .int .u8 0, .int .u8 0, .int .u8 0, .int .u8 0, .int .u8 0, .int .u8 0, .int .u8 0, .int .u8 0, .int .u8 0, .int .u8 0, .int .u8 0, .int .u8 0, .int .u8 0, .int .u8 0, .int .u8 0] 201)) := s19.alloc s19.size _
     have q20 : Shp.tn 25 (u19w.alloc (.cells #[.int .u8 0, .int .u8 0, .int .u8 0, .int .u8 0, .int .u8 0, .int .u8 0, .int .u8 0, .int .u8 0, .int .u8 0, .int .u8 0, .int .u8 0, .int .u8 0, .int .u8 0, .int .u8 0, .int .u8 0, .int .u8 0, .int .u8 0, .int .u8 0, .int .u8 0, .int .u8 0, .int .u8 0, .int .u8 0, .int .u8 0, .int .u8 0, .int .u8 0] 201)) u19w.heap.size = true := Shp.tn_of (Blk.new u19w _ _) rfl
     have t4_20 := Blk.on t4_19 (below_alloc_ u19w (.cells #[.int .u8 0, .int .u8 0, .int .u8 0, .int .u8 0, .int .u8 0, .int .u8 0, .int .u8 0, .int .u8 0, .int .u8 0, .int .u8 0, .int .u8 0, .int .u8 0, .int .u8 0, .int .u8 0, .int .u8 0, .int .u8 0, .int .u8 0, .int .u8 0, .int .u8 0, .int .u8 0, .int .u8 0, .int .u8 0, .int .u8 0, .int .u8 0, .int .u8 0] 201))
     have ne4_5 : wd.heap.size ≠ u19w.heap.size := Nat.ne_of_lt (Blk.lt t4_19)
     refine hK.out _ _ s20 (fun _ => ?_)
     clear hK K
     try simp only [Act.put, iT, iZ, iS]
     obtain ⟨u20w, hu20w⟩ : ∃ V, u19w.alloc (.cells #[.int .u8 0, .int .u8 0, .int .u8 0, .int .u8 0, .int .u8 0, .int .u8 0, .int .u8 0, .int .u8 0, .int .u8 0, .int .u8 0, .int .u8 0, .int .u8 0, .int .u8 0, .int .u8 0, .int .u8 0, .int .u8 0, .int .u8 0, .int .u8 0, .int .u8 0, .int .u8 0, .int .u8 0, .int .u8 0, .int .u8 0, .int .u8 0, .int .u8 0] 201) = V := ⟨_, rfl⟩
     rw [hu20w] at s20 q20 t4_20
     rw [hu20w]
     clear hu20w
     have hc4 := t4_20.cell
     have hf4 := t4_20.free
     have B4 : Blk (u20w.setCell ⟨wd.heap.size, 0, none⟩ (.pointer (some ⟨g, 0, none⟩))) (wd.heap.size) 208 #[(.pointer (some ⟨g, 0, none⟩))] := t4_20.set_ _
     have t6 : Shp.tn 25 (u20w.setCell ⟨wd.heap.size, 0, none⟩ (.pointer (some ⟨g, 0, none⟩))) (u19w.heap.size) = true := (Shp.tn_to (Below.heap_setCell _ _ _ _ (Ne.symm ne4_5))).trans q20
     refine nextS 6 (by kernel_rfl) (by rfl) (fun o ho K hK => ?_)
     simp only [gT, gS, gZ, sI] at ho; subst ho
     go_simp
     have sA : Below w0.heap.size w0 (u20w.setCell ⟨wd.heap.size, 0, none⟩ (.pointer (some ⟨g, 0, none⟩))) := s20.setCell sd.size _
     refine hK.out _ _ sA (fun _ => ?_)
     clear hK K
     try simp only [Act.put, iT, iZ, iS]
     refine nextS 7 (by kernel_rfl) (by rfl) (fun o ho K hK => ?_)
     simp only [gT, gS, gZ, sI] at ho; subst ho
     go_simp
     have sB : Below w0.heap.size w0 ((u20w.setCell ⟨wd.heap.size, 0, none⟩ (.pointer (some ⟨g, 0, none⟩))).setRow (u19w.heap.size) (kS.v k)) := below_setRow sA s19.size _
     refine hK.out _ _ sB (fun _ => ?_)
     clear hK K
     try simp only [Act.put, iT, iZ, iS]
     refine wpAnyH_done (by kernel_rfl) ?_ _
     refine NoPanic.normal ?_
     have RB := Shp.rd_set (S := kS) (u20w.setCell ⟨wd.heap.size, 0, none⟩ (.pointer (some ⟨g, 0, none⟩))) (u19w.heap.size) k t6
     have A4 : Blk ((u20w.setCell ⟨wd.heap.size, 0, none⟩ (.pointer (some ⟨g, 0, none⟩))).setRow (u19w.heap.size) (kS.v k)) (wd.heap.size) 208 #[(.pointer (some ⟨g, 0, none⟩))] := ⟨(heap_setRow _ _ _ _ ne4_5).trans B4.out⟩
     have z4 : w0.heap.size ≤ wd.heap.size := sd.size
     have z5 : w0.heap.size ≤ u19w.heap.size := s19.size
     go_wp2_with fail
     go_meet
     exact ⟨_, _, rfl, rfl, A4, RB, z4, z5, sB⟩
    ·simp only [gT, gS, gZ, sI] at ho; subst ho
     go_simp
     have s21 : Below w0.heap.size w0 (u17w.alloc (.cells #[.int .u8 0, .int .u8 0, .int .u8 0, .int .u8 0, .int .u8 0, .int .u8 0, .int .u8 0, .int .u8 0, .int .u8 0, .int .u8 0, .int .u8 0, .int .u8 0, .int .u8 0, .int .u8 0, .int .u8 0, .int .u8 0, .int .u8 0, .int .u8 0, .int .u8 0, .int .u8 0, .int .u8 0, .int .u8 0, .int .u8 0, .int .u8 0, .int .u8 0] 201)) := s17.alloc s17.size _
     have q21 : Shp.tn 25 (u17w.alloc (.cells #[.int .u8 0, .int .u8 0, .int .u8 0, .int .u8 0, .int .u8 0, .int .u8 0, .int .u8 0, .int .u8 0, .int .u8 0, .int .u8 0, .int .u8 0, .int .u8 0, .int .u8 0, .int .u8 0, .int .u8 0, .int .u8 0, .int .u8 0, .int .u8 0, .int .u8 0, .int .u8 0, .int .u8 0, .int .u8 0, .int .u8 0, .int .u8 0, .int .u8 0] 201)) u17w.heap.size = true := Shp.tn_of (Blk.new u17w _ _) rfl
     have t4_21 := Blk.on q17 (below_alloc_ u17w (.cells #[.int .u8 0, .int .u8 0, .int .u8 0, .int .u8 0, .int .u8 0, .int .u8 0, .int .u8 0, .int .u8 0, .int .u8 0, .int .u8 0, .int .u8 0, .int .u8 0, .int .u8 0, .int .u8 0, .int .u8 0, .int .u8 0, .int .u8 0, .int .u8 0, .int .u8 0, .int .u8 0, .int .u8 0, .int .u8 0, .int .u8 0, .int .u8 0, .int .u8 0] 201))
     have ne4_5 : wd.heap.size ≠ u17w.heap.size := Nat.ne_of_lt (Blk.lt q17)
     refine hK.out _ _ s21 (fun _ => ?_)
     clear hK K
     try simp only [Act.put, iT, iZ, iS]
     obtain ⟨u21w, hu21w⟩ : ∃ V, u17w.alloc (.cells #[.int .u8 0, .int .u8 0, .int .u8 0, .int .u8 0, .int .u8 0, .int .u8 0, .int .u8 0, .int .u8 0, .int .u8 0, .int .u8 0, .int .u8 0, .int .u8 0, .int .u8 0, .int .u8 0, .int .u8 0, .int .u8 0, .int .u8 0, .int .u8 0, .int .u8 0, .int .u8 0, .int .u8 0, .int .u8 0, .int .u8 0, .int .u8 0, .int .u8 0] 201) = V := ⟨_, rfl⟩
     rw [hu21w] at s21 q21 t4_21
     rw [hu21w]
     clear hu21w
     refine nextS 3 (by kernel_rfl) (by rfl) (fun o ho K hK => ?_)
     simp only [gT, gS, gZ, sI] at ho; subst ho
     go_simp
     (go_at_call 131; (with_reducible refine (CB.out _).mono ?_); rintro e u22w ⟨rfl, b22⟩)
     have s22 : Below w0.heap.size w0 u22w := below_up s21 s21.size b22
     have t4_22 := Blk.on t4_21 b22
     have t5_22 := Shp.tn_on q21 b22
     refine hK.out _ _ s22 (fun _ => ?_)
     clear hK K
     try simp only [Act.put, iT, iZ, iS]
     have hc4 := t4_22.cell
     have hf4 := t4_22.free
     have B4 : Blk (u22w.setCell ⟨wd.heap.size, 0, none⟩ (.pointer (some ⟨g, 0, none⟩))) (wd.heap.size) 208 #[(.pointer (some ⟨g, 0, none⟩))] := t4_22.set_ _
     have t6 : Shp.tn 25 (u22w.setCell ⟨wd.heap.size, 0, none⟩ (.pointer (some ⟨g, 0, none⟩))) (u17w.heap.size) = true := (Shp.tn_to (Below.heap_setCell _ _ _ _ (Ne.symm ne4_5))).trans t5_22
     refine nextS 6 (by kernel_rfl) (by rfl) (fun o ho K hK => ?_)
     simp only [gT, gS, gZ, sI] at ho; subst ho
     go_simp
     have sA : Below w0.heap.size w0 (u22w.setCell ⟨wd.heap.size, 0, none⟩ (.pointer (some ⟨g, 0, none⟩))) := s22.setCell sd.size _
     refine hK.out _ _ sA (fun _ => ?_)
     clear hK K
     try simp only [Act.put, iT, iZ, iS]
     refine nextS 7 (by kernel_rfl) (by rfl) (fun o ho K hK => ?_)
     simp only [gT, gS, gZ, sI] at ho; subst ho
     go_simp
     have sB : Below w0.heap.size w0 ((u22w.setCell ⟨wd.heap.size, 0, none⟩ (.pointer (some ⟨g, 0, none⟩))).setRow (u17w.heap.size) (kS.v k)) := below_setRow sA s17.size _
     refine hK.out _ _ sB (fun _ => ?_)
     clear hK K
     try simp only [Act.put, iT, iZ, iS]
     refine wpAnyH_done (by kernel_rfl) ?_ _
     refine NoPanic.normal ?_
     have RB := Shp.rd_set (S := kS) (u22w.setCell ⟨wd.heap.size, 0, none⟩ (.pointer (some ⟨g, 0, none⟩))) (u17w.heap.size) k t6
     have A4 : Blk ((u22w.setCell ⟨wd.heap.size, 0, none⟩ (.pointer (some ⟨g, 0, none⟩))).setRow (u17w.heap.size) (kS.v k)) (wd.heap.size) 208 #[(.pointer (some ⟨g, 0, none⟩))] := ⟨(heap_setRow _ _ _ _ ne4_5).trans B4.out⟩
     have z4 : w0.heap.size ≤ wd.heap.size := sd.size
     have z5 : w0.heap.size ≤ u17w.heap.size := s17.size
     go_wp2_with fail
     go_meet
     exact ⟨_, _, rfl, rfl, A4, RB, z4, z5, sB⟩
   ·simp only [gT, gS, gZ, sI] at ho; subst ho
    go_simp
    have s23 : Below w0.heap.size w0 (u17w.alloc (.cells #[.int .u8 0, .int .u8 0, .int .u8 0, .int .u8 0, .int .u8 0, .int .u8 0, .int .u8 0, .int .u8 0, .int .u8 0, .int .u8 0, .int .u8 0, .int .u8 0, .int .u8 0, .int .u8 0, .int .u8 0, .int .u8 0, .int .u8 0, .int .u8 0, .int .u8 0, .int .u8 0, .int .u8 0, .int .u8 0, .int .u8 0, .int .u8 0, .int .u8 0] 201)) := s17.alloc s17.size _
    have q23 : Shp.tn 25 (u17w.alloc (.cells #[.int .u8 0, .int .u8 0, .int .u8 0, .int .u8 0, .int .u8 0, .int .u8 0, .int .u8 0, .int .u8 0, .int .u8 0, .int .u8 0, .int .u8 0, .int .u8 0, .int .u8 0, .int .u8 0, .int .u8 0, .int .u8 0, .int .u8 0, .int .u8 0, .int .u8 0, .int .u8 0, .int .u8 0, .int .u8 0, .int .u8 0, .int .u8 0, .int .u8 0] 201)) u17w.heap.size = true := Shp.tn_of (Blk.new u17w _ _) rfl
    have t4_23 := Blk.on q17 (below_alloc_ u17w (.cells #[.int .u8 0, .int .u8 0, .int .u8 0, .int .u8 0, .int .u8 0, .int .u8 0, .int .u8 0, .int .u8 0, .int .u8 0, .int .u8 0, .int .u8 0, .int .u8 0, .int .u8 0, .int .u8 0, .int .u8 0, .int .u8 0, .int .u8 0, .int .u8 0, .int .u8 0, .int .u8 0, .int .u8 0, .int .u8 0, .int .u8 0, .int .u8 0, .int .u8 0] 201))
    have ne4_5 : wd.heap.size ≠ u17w.heap.size := Nat.ne_of_lt (Blk.lt q17)
    refine hK.out _ _ s23 (fun _ => ?_)
    clear hK K
    try simp only [Act.put, iT, iZ, iS]
    obtain ⟨u23w, hu23w⟩ : ∃ V, u17w.alloc (.cells #[.int .u8 0, .int .u8 0, .int .u8 0, .int .u8 0, .int .u8 0, .int .u8 0, .int .u8 0, .int .u8 0, .int .u8 0, .int .u8 0, .int .u8 0, .int .u8 0, .int .u8 0, .int .u8 0, .int .u8 0, .int .u8 0, .int .u8 0, .int .u8 0, .int .u8 0, .int .u8 0, .int .u8 0, .int .u8 0, .int .u8 0, .int .u8 0, .int .u8 0] 201) = V := ⟨_, rfl⟩
    rw [hu23w] at s23 q23 t4_23
    rw [hu23w]
    clear hu23w
    refine nextS 1 (by kernel_rfl) (by rfl) (fun o ho K hK => ?_)
    simp only [gT, gS, gZ, sI] at ho; subst ho
    go_simp
    (go_at_call 134; (with_reducible refine (top_any g _).mono ?_); rintro e u24x ⟨rfl, rfl⟩)
    refine hK.out _ _ s23 (fun _ => ?_)
    clear hK K
    try simp only [Act.put, iT, iZ, iS]
    refine nextS 3 (by kernel_rfl) (by rfl) (fun o ho K hK => ?_)
    simp only [gT, gS, gZ, sI] at ho; subst ho
    go_simp
    (go_at_call 131; (with_reducible refine (CB.out _).mono ?_); rintro e u25w ⟨rfl, b25⟩)
    have s25 : Below w0.heap.size w0 u25w := below_up s23 s23.size b25
    have t4_25 := Blk.on t4_23 b25
    have t5_25 := Shp.tn_on q23 b25
    refine hK.out _ _ s25 (fun _ => ?_)
    clear hK K
    try simp only [Act.put, iT, iZ, iS]
    have hc4 := t4_25.cell
    have hf4 := t4_25.free
    have B4 : Blk (u25w.setCell ⟨wd.heap.size, 0, none⟩ (.pointer (some ⟨g, 0, none⟩))) (wd.heap.size) 208 #[(.pointer (some ⟨g, 0, none⟩))] := t4_25.set_ _
    have t6 : Shp.tn 25 (u25w.setCell ⟨wd.heap.size, 0, none⟩ (.pointer (some ⟨g, 0, none⟩))) (u17w.heap.size) = true := (Shp.tn_to (Below.heap_setCell _ _ _ _ (Ne.symm ne4_5))).trans t5_25
    refine nextS 6 (by kernel_rfl) (by rfl) (fun o ho K hK => ?_)
    simp only [gT, gS, gZ, sI] at ho; subst ho
    go_simp
    have sA : Below w0.heap.size w0 (u25w.setCell ⟨wd.heap.size, 0, none⟩ (.pointer (some ⟨g, 0, none⟩))) := s25.setCell sd.size _
    refine hK.out _ _ sA (fun _ => ?_)
    clear hK K
    try simp only [Act.put, iT, iZ, iS]
    refine nextS 7 (by kernel_rfl) (by rfl) (fun o ho K hK => ?_)
    simp only [gT, gS, gZ, sI] at ho; subst ho
    go_simp
    have sB : Below w0.heap.size w0 ((u25w.setCell ⟨wd.heap.size, 0, none⟩ (.pointer (some ⟨g, 0, none⟩))).setRow (u17w.heap.size) (kS.v k)) := below_setRow sA s17.size _
    refine hK.out _ _ sB (fun _ => ?_)
    clear hK K
    try simp only [Act.put, iT, iZ, iS]
    refine wpAnyH_done (by kernel_rfl) ?_ _
    refine NoPanic.normal ?_
    have RB := Shp.rd_set (S := kS) (u25w.setCell ⟨wd.heap.size, 0, none⟩ (.pointer (some ⟨g, 0, none⟩))) (u17w.heap.size) k t6
    have A4 : Blk ((u25w.setCell ⟨wd.heap.size, 0, none⟩ (.pointer (some ⟨g, 0, none⟩))).setRow (u17w.heap.size) (kS.v k)) (wd.heap.size) 208 #[(.pointer (some ⟨g, 0, none⟩))] := ⟨(heap_setRow _ _ _ _ ne4_5).trans B4.out⟩
    have z4 : w0.heap.size ≤ wd.heap.size := sd.size
    have z5 : w0.heap.size ≤ u17w.heap.size := s17.size
    go_wp2_with fail
    go_meet
    exact ⟨_, _, rfl, rfl, A4, RB, z4, z5, sB⟩
  ·simp only [gT, gS, gZ, sI] at ho; subst ho
   go_simp
   have s26 : Below w0.heap.size w0 (wd.alloc (.cells #[.int .u8 0, .int .u8 0, .int .u8 0, .int .u8 0, .int .u8 0, .int .u8 0, .int .u8 0, .int .u8 0, .int .u8 0, .int .u8 0, .int .u8 0, .int .u8 0, .int .u8 0, .int .u8 0, .int .u8 0, .int .u8 0, .int .u8 0, .int .u8 0, .int .u8 0, .int .u8 0, .int .u8 0, .int .u8 0, .int .u8 0, .int .u8 0, .int .u8 0] 201)) := sd.alloc sd.size _
   have q26 : Shp.tn 25 (wd.alloc (.cells #[.int .u8 0, .int .u8 0, .int .u8 0, .int .u8 0, .int .u8 0, .int .u8 0, .int .u8 0, .int .u8 0, .int .u8 0, .int .u8 0, .int .u8 0, .int .u8 0, .int .u8 0, .int .u8 0, .int .u8 0, .int .u8 0, .int .u8 0, .int .u8 0, .int .u8 0, .int .u8 0, .int .u8 0, .int .u8 0, .int .u8 0, .int .u8 0, .int .u8 0] 201)) wd.heap.size = true := Shp.tn_of (Blk.new wd _ _) rfl
   refine hK.out _ _ s26 (fun _ => ?_)
   clear hK K
   try simp only [Act.put, iT, iZ, iS]
   obtain ⟨u26w, hu26w⟩ : ∃ V, wd.alloc (.cells #[.int .u8 0, .int .u8 0, .int .u8 0, .int .u8 0, .int .u8 0, .int .u8 0, .int .u8 0, .int .u8 0, .int .u8 0, .int .u8 0, .int .u8 0, .int .u8 0, .int .u8 0, .int .u8 0, .int .u8 0, .int .u8 0, .int .u8 0, .int .u8 0, .int .u8 0, .int .u8 0, .int .u8 0, .int .u8 0, .int .u8 0, .int .u8 0, .int .u8 0] 201) = V := ⟨_, rfl⟩
   rw [hu26w] at s26 q26
   rw [hu26w]
   clear hu26w
   refine forkS 1 4 (by kernel_rfl) (by rfl) (by rfl) (fun o ho K hK => ?_) (fun o ho K hK => ?_)
   ·simp only [gT, gS, gZ, sI] at ho; subst ho
    go_simp
    (go_at_call 134; (with_reducible refine (top_any g _).mono ?_); rintro e u27x ⟨rfl, rfl⟩)
    refine hK.out _ _ s26 (fun _ => ?_)
    clear hK K
    try simp only [Act.put, iT, iZ, iS]
    refine forkS 3 4 (by kernel_rfl) (by rfl) (by rfl) (fun o ho K hK => ?_) (fun o ho K hK => ?_)
    ·simp only [gT, gS, gZ, sI] at ho; subst ho
     go_simp
     (go_at_call 131; (with_reducible refine (CB.out _).mono ?_); rintro e u28w ⟨rfl, b28⟩)
     have s28 : Below w0.heap.size w0 u28w := below_up s26 s26.size b28
     have t5_28 := Shp.tn_on q26 b28
     refine hK.out _ _ s28 (fun _ => ?_)
     clear hK K
     try simp only [Act.put, iT, iZ, iS]
     refine nextS 4 (by kernel_rfl) (by rfl) (fun o ho K hK => ?_)
     simp only [gT, gS, gZ, sI] at ho; subst ho
     go_simp
     have s29 : Below w0.heap.size w0 (u28w.alloc (.cells #[.pointer none] 208)) := s28.alloc s28.size _
     have q29 : Blk (u28w.alloc (.cells #[.pointer none] 208)) u28w.heap.size 208 #[.pointer none] := Blk.new u28w _ _
     have t5_29 := Shp.tn_on t5_28 (below_alloc_ u28w (.cells #[.pointer none] 208))
     have ne4_5 : u28w.heap.size ≠ wd.heap.size := Nat.ne_of_gt (Shp.tn_lt t5_28)
     refine hK.out _ _ s29 (fun _ => ?_)
     clear hK K
     try simp only [Act.put, iT, iZ, iS]
     obtain ⟨u29w, hu29w⟩ : ∃ V, u28w.alloc (.cells #[.pointer none] 208) = V := ⟨_, rfl⟩
     rw [hu29w] at s29 q29 t5_29
     rw [hu29w]
     clear hu29w
     have hc4 := q29.cell
     have hf4 := q29.free
     have B4 : Blk (u29w.setCell ⟨u28w.heap.size, 0, none⟩ (.pointer (some ⟨g, 0, none⟩))) (u28w.heap.size) 208 #[(.pointer (some ⟨g, 0, none⟩))] := q29.set_ _
     have t6 : Shp.tn 25 (u29w.setCell ⟨u28w.heap.size, 0, none⟩ (.pointer (some ⟨g, 0, none⟩))) (wd.heap.size) = true := (Shp.tn_to (Below.heap_setCell _ _ _ _ (Ne.symm ne4_5))).trans t5_29
     refine nextS 6 (by kernel_rfl) (by rfl) (fun o ho K hK => ?_)
     simp only [gT, gS, gZ, sI] at ho; subst ho
     go_simp
     have sA : Below w0.heap.size w0 (u29w.setCell ⟨u28w.heap.size, 0, none⟩ (.pointer (some ⟨g, 0, none⟩))) := s29.setCell s28.size _
     refine hK.out _ _ sA (fun _ => ?_)
     clear hK K
     try simp only [Act.put, iT, iZ, iS]
     refine nextS 7 (by kernel_rfl) (by rfl) (fun o ho K hK => ?_)
     simp only [gT, gS, gZ, sI] at ho; subst ho
     go_simp
     have sB : Below w0.heap.size w0 ((u29w.setCell ⟨u28w.heap.size, 0, none⟩ (.pointer (some ⟨g, 0, none⟩))).setRow (wd.heap.size) (kS.v k)) := below_setRow sA sd.size _
     refine hK.out _ _ sB (fun _ => ?_)
     clear hK K
     try simp only [Act.put, iT, iZ, iS]
     refine wpAnyH_done (by kernel_rfl) ?_ _
     refine NoPanic.normal ?_
     have RB := Shp.rd_set (S := kS) (u29w.setCell ⟨u28w.heap.size, 0, none⟩ (.pointer (some ⟨g, 0, none⟩))) (wd.heap.size) k t6
     have A4 : Blk ((u29w.setCell ⟨u28w.heap.size, 0, none⟩ (.pointer (some ⟨g, 0, none⟩))).setRow (wd.heap.size) (kS.v k)) (u28w.heap.size) 208 #[(.pointer (some ⟨g, 0, none⟩))] := ⟨(heap_setRow _ _ _ _ ne4_5).trans B4.out⟩
     have z4 : w0.heap.size ≤ u28w.heap.size := s28.size
     have z5 : w0.heap.size ≤ wd.heap.size := sd.size
     go_wp2_with fail
     go_meet
     exact ⟨_, _, rfl, rfl, A4, RB, z4, z5, sB⟩
    ·simp only [gT, gS, gZ, sI] at ho; subst ho
     go_simp
     have s30 : Below w0.heap.size w0 (u26w.alloc (.cells #[.pointer none] 208)) := s26.alloc s26.size _
     have q30 : Blk (u26w.alloc (.cells #[.pointer none] 208)) u26w.heap.size 208 #[.pointer none] := Blk.new u26w _ _
     have t5_30 := Shp.tn_on q26 (below_alloc_ u26w (.cells #[.pointer none] 208))
     have ne4_5 : u26w.heap.size ≠ wd.heap.size := Nat.ne_of_gt (Shp.tn_lt q26)
     refine hK.out _ _ s30 (fun _ => ?_)
     clear hK K
     try simp only [Act.put, iT, iZ, iS]
     obtain ⟨u30w, hu30w⟩ : ∃ V, u26w.alloc (.cells #[.pointer none] 208) = V := ⟨_, rfl⟩
     rw [hu30w] at s30 q30 t5_30
     rw [hu30w]
     clear hu30w
     refine nextS 3 (by kernel_rfl) (by rfl) (fun o ho K hK => ?_)
     simp only [gT, gS, gZ, sI] at ho; subst ho
     go_simp
     (go_at_call 131; (with_reducible refine (CB.out _).mono ?_); rintro e u31w ⟨rfl, b31⟩)
     have s31 : Below w0.heap.size w0 u31w := below_up s30 s30.size b31
     have t5_31 := Shp.tn_on t5_30 b31
     have t4_31 := Blk.on q30 b31
     refine hK.out _ _ s31 (fun _ => ?_)
     clear hK K
     try simp only [Act.put, iT, iZ, iS]
     have hc4 := t4_31.cell
     have hf4 := t4_31.free
     have B4 : Blk (u31w.setCell ⟨u26w.heap.size, 0, none⟩ (.pointer (some ⟨g, 0, none⟩))) (u26w.heap.size) 208 #[(.pointer (some ⟨g, 0, none⟩))] := t4_31.set_ _
     have t6 : Shp.tn 25 (u31w.setCell ⟨u26w.heap.size, 0, none⟩ (.pointer (some ⟨g, 0, none⟩))) (wd.heap.size) = true := (Shp.tn_to (Below.heap_setCell _ _ _ _ (Ne.symm ne4_5))).trans t5_31
     refine nextS 6 (by kernel_rfl) (by rfl) (fun o ho K hK => ?_)
     simp only [gT, gS, gZ, sI] at ho; subst ho
     go_simp
     have sA : Below w0.heap.size w0 (u31w.setCell ⟨u26w.heap.size, 0, none⟩ (.pointer (some ⟨g, 0, none⟩))) := s31.setCell s26.size _
     refine hK.out _ _ sA (fun _ => ?_)
     clear hK K
     try simp only [Act.put, iT, iZ, iS]
     refine nextS 7 (by kernel_rfl) (by rfl) (fun o ho K hK => ?_)
     simp only [gT, gS, gZ, sI] at ho; subst ho
     go_simp
     have sB : Below w0.heap.size w0 ((u31w.setCell ⟨u26w.heap.size, 0, none⟩ (.pointer (some ⟨g, 0, none⟩))).setRow (wd.heap.size) (kS.v k)) := below_setRow sA sd.size _
     refine hK.out _ _ sB (fun _ => ?_)
     clear hK K
     try simp only [Act.put, iT, iZ, iS]
     refine wpAnyH_done (by kernel_rfl) ?_ _
     refine NoPanic.normal ?_
     have RB := Shp.rd_set (S := kS) (u31w.setCell ⟨u26w.heap.size, 0, none⟩ (.pointer (some ⟨g, 0, none⟩))) (wd.heap.size) k t6
     have A4 : Blk ((u31w.setCell ⟨u26w.heap.size, 0, none⟩ (.pointer (some ⟨g, 0, none⟩))).setRow (wd.heap.size) (kS.v k)) (u26w.heap.size) 208 #[(.pointer (some ⟨g, 0, none⟩))] := ⟨(heap_setRow _ _ _ _ ne4_5).trans B4.out⟩
     have z4 : w0.heap.size ≤ u26w.heap.size := s26.size
     have z5 : w0.heap.size ≤ wd.heap.size := sd.size
     go_wp2_with fail
     go_meet
     exact ⟨_, _, rfl, rfl, A4, RB, z4, z5, sB⟩
   ·simp only [gT, gS, gZ, sI] at ho; subst ho
    go_simp
    have s32 : Below w0.heap.size w0 (u26w.alloc (.cells #[.pointer none] 208)) := s26.alloc s26.size _
    have q32 : Blk (u26w.alloc (.cells #[.pointer none] 208)) u26w.heap.size 208 #[.pointer none] := Blk.new u26w _ _
    have t5_32 := Shp.tn_on q26 (below_alloc_ u26w (.cells #[.pointer none] 208))
    have ne4_5 : u26w.heap.size ≠ wd.heap.size := Nat.ne_of_gt (Shp.tn_lt q26)
    refine hK.out _ _ s32 (fun _ => ?_)
    clear hK K
    try simp only [Act.put, iT, iZ, iS]
    obtain ⟨u32w, hu32w⟩ : ∃ V, u26w.alloc (.cells #[.pointer none] 208) = V := ⟨_, rfl⟩
    rw [hu32w] at s32 q32 t5_32
    rw [hu32w]
    clear hu32w
    refine nextS 1 (by kernel_rfl) (by rfl) (fun o ho K hK => ?_)
    simp only [gT, gS, gZ, sI] at ho; subst ho
    go_simp
    (go_at_call 134; (with_reducible refine (top_any g _).mono ?_); rintro e u33x ⟨rfl, rfl⟩)
    refine hK.out _ _ s32 (fun _ => ?_)
    clear hK K
    try simp only [Act.put, iT, iZ, iS]
    refine nextS 3 (by kernel_rfl) (by rfl) (fun o ho K hK => ?_)
    simp only [gT, gS, gZ, sI] at ho; subst ho
    go_simp
    (go_at_call 131; (with_reducible refine (CB.out _).mono ?_); rintro e u34w ⟨rfl, b34⟩)
    have s34 : Below w0.heap.size w0 u34w := below_up s32 s32.size b34
    have t5_34 := Shp.tn_on t5_32 b34
    have t4_34 := Blk.on q32 b34
    refine hK.out _ _ s34 (fun _ => ?_)
    clear hK K
    try simp only [Act.put, iT, iZ, iS]
    have hc4 := t4_34.cell
    have hf4 := t4_34.free
    have B4 : Blk (u34w.setCell ⟨u26w.heap.size, 0, none⟩ (.pointer (some ⟨g, 0, none⟩))) (u26w.heap.size) 208 #[(.pointer (some ⟨g, 0, none⟩))] := t4_34.set_ _
    have t6 : Shp.tn 25 (u34w.setCell ⟨u26w.heap.size, 0, none⟩ (.pointer (some ⟨g, 0, none⟩))) (wd.heap.size) = true := (Shp.tn_to (Below.heap_setCell _ _ _ _ (Ne.symm ne4_5))).trans t5_34
    refine nextS 6 (by kernel_rfl) (by rfl) (fun o ho K hK => ?_)
    simp only [gT, gS, gZ, sI] at ho; subst ho
    go_simp
    have sA : Below w0.heap.size w0 (u34w.setCell ⟨u26w.heap.size, 0, none⟩ (.pointer (some ⟨g, 0, none⟩))) := s34.setCell s26.size _
    refine hK.out _ _ sA (fun _ => ?_)
    clear hK K
    try simp only [Act.put, iT, iZ, iS]
    refine nextS 7 (by kernel_rfl) (by rfl) (fun o ho K hK => ?_)
    simp only [gT, gS, gZ, sI] at ho; subst ho
    go_simp
    have sB : Below w0.heap.size w0 ((u34w.setCell ⟨u26w.heap.size, 0, none⟩ (.pointer (some ⟨g, 0, none⟩))).setRow (wd.heap.size) (kS.v k)) := below_setRow sA sd.size _
    refine hK.out _ _ sB (fun _ => ?_)
    clear hK K
    try simp only [Act.put, iT, iZ, iS]
    refine wpAnyH_done (by kernel_rfl) ?_ _
    refine NoPanic.normal ?_
    have RB := Shp.rd_set (S := kS) (u34w.setCell ⟨u26w.heap.size, 0, none⟩ (.pointer (some ⟨g, 0, none⟩))) (wd.heap.size) k t6
    have A4 : Blk ((u34w.setCell ⟨u26w.heap.size, 0, none⟩ (.pointer (some ⟨g, 0, none⟩))).setRow (wd.heap.size) (kS.v k)) (u26w.heap.size) 208 #[(.pointer (some ⟨g, 0, none⟩))] := ⟨(heap_setRow _ _ _ _ ne4_5).trans B4.out⟩
    have z4 : w0.heap.size ≤ u26w.heap.size := s26.size
    have z5 : w0.heap.size ≤ wd.heap.size := sd.size
    go_wp2_with fail
    go_meet
    exact ⟨_, _, rfl, rfl, A4, RB, z4, z5, sB⟩
 case rest =>
  obtain ⟨k7, k8, rfl, rfl, B7, R8, z7, z8, b1⟩ := hcut
  have f1 := Shp.rd_on f0 b1
  have hT1 := hT0.on b1
  have bw := below_up b0 b0.size b1
  clear f0 hT0
  gi_wp2
  refine ⟨trivial, ?_⟩
  refine (callsIn_wide.2 (CP.out _)).mono ?_
  rintro e w3 ⟨rfl, hw3⟩
  have b3 : Below wc.heap.size wc w3 := by rw [hw3]; exact ((below_alloc_ _ _).alloc (by simp) _).alloc (by simp; omega) _
  have hz3 : w3.heap.size = wc.heap.size + 3 := by rw [hw3]; simp
  have ht3 : w3.cell? ⟨wc.heap.size, 0, none⟩ = some (.pointer (some ⟨g, 0, none⟩)) := by
   rw [hw3]
   exact cell_kept_ (below_alloc_ _ _) (cell_kept_ (below_alloc_ _ _) (Blk.new wc _ _).cell)
  have hk3 : kS.rd w3 ⟨wc.heap.size + 1, 0, none⟩ = some k := by
   rw [hw3]
   exact Shp.rd_on (Shp.rd_new (S := kS) _ _ _ _ (by simp)) (below_alloc_ _ _)
  have hb3 : w3.cell? ⟨wc.heap.size + 2, 0, none⟩ = some (.int .i64 (d : Nat)) := by
   rw [hw3]
   have := (Blk.new ((wc.alloc (.cells #[.pointer (some ⟨g, 0, none⟩)] 125)).alloc (.cells (kS.v k) 39)) 3 #[.int .i64 (d : Nat)]).cell
   simpa using this
  clear hw3
  have hT3 := hT1.on b3
  have B73 := B7.on b3
  have R83 := Shp.rd_on R8 b3
  have l7 := B7.lt
  have l8 := Shp.rd_lt R8
  have n78 : k8 ≠ k7 := by
   intro e
   subst e
   obtain ⟨cs, hB, hs⟩ : ∃ cs, Blk wc k8 208 cs ∧ cs.size = 1 := ⟨_, B7, rfl⟩
   have h0 := kcell_at R8 (j := 1) (by omega)
   have h1 := B7.out
   simp [World.cell?, h1] at h0
  have hX : ∀ t, o = some t → ∀ q ∈ t.bl, q < w3.heap.size ∧ q ∉ [k7] := fun t e q hq => by
   obtain ⟨cs, hB⟩ := (hT3.nd t e).lt q hq
   refine ⟨hB.lt, fun c => ?_⟩
   simp only [List.mem_singleton] at c
   exact blk_ne hB B73 (by decide) c
  clear hT1 B7 R8 f1
  gi_wp2
  refine wpIn_rangeFunc_ownH rfl (by decide) (gf := 165) (lb := #[.pointer (some ⟨wc.heap.size + 1, 0, none⟩), .pointer (some ⟨wc.heap.size, 0, none⟩), .pointer (some ⟨wc.heap.size + 2, 0, none⟩)]) rfl trivial (enters_of Tryz.func165 (by kernel_rfl) rfl)
   (psd_stops 9 (by decide) (wc.heap.size + 1) wc.heap.size (wc.heap.size + 2) g k d hd o w3.heap.size [k7] w3 hk3 ht3 hb3 hT3 ⟨by omega, by simp; omega⟩ hX (Nat.le_refl _)) (fun h k => h.trans k) (fun W l o o' h1 h2 h3 _ => Kp.put W l o o' h1 h2 h3) (Below.refl _ _) (fun _ => rfl)
   (fun pre W => Ov w3.heap.size [k7] w3 W ∧ Blk W k7 208 #[.pointer (some (plc k ⟨g, 0, none⟩ (pre.map (·.1))))]) (fun _ _ _ => False)
   (fun s W W' row hs hg hr => ⟨hs.1.grown (Nat.le_refl _) hg fun r e => .inl (hr r e).1, (blk_own (t := 208) (fun s : List { t : Tk // t ∈ pth k d o } => #[.pointer (some (plc k ⟨g, 0, none⟩ (s.map (·.1))))])) s W W' row hs.2 hg hr⟩) (fun _ _ _ _ _ hs _ _ => hs) ⟨Ov.refl _ _ _, B73⟩
   (fun y a' W => a' = { tmps := #[.pointer (some ⟨g, 0, none⟩), .agg (kS.v k), .int .i64 (d : Nat), undef, .pointer (some ⟨w.heap.size, 0, none⟩), undef, .pointer none, .pointer (some ⟨k7, 0, none⟩), .pointer (some ⟨k8, 0, none⟩), .pointer (some ⟨y.1.ad, 0, none⟩), u10, u11, u12, u13, .pointer (some ⟨g, 0, none⟩), .agg (kS.v k), .int .i64 (d : Nat), .func (.func 165) #[] #[.pointer (some ⟨wc.heap.size + 1, 0, none⟩), .pointer (some ⟨wc.heap.size, 0, none⟩), .pointer (some ⟨wc.heap.size + 2, 0, none⟩)], .pointer (some ⟨y.1.ad, 0, none⟩), u19, u20, u21, u22, u23, u24, u25, u26, u27, u28, u29], defers := [] })
   (fun _ _ _ _ _ _ hs _ _ => hs) ?assign ?body ?done ?stop
  case assign =>
   rintro l pre y W K hI hK
   gi_wp2
   exact hK _ _ (KeepsFrom.refl _ _) (Kp.refl _ _ _) hI rfl
  case body =>
   rintro l pre y a' W hl ⟨r, hr⟩ ⟨hO, hB⟩ rfl hlt
   obtain ⟨m1, m2, m3, t, m4, m5⟩ := hT3.mem y.2
   have hbl : ∀ q ∈ y.1.bl, q < w3.heap.size ∧ q ∉ [k7] := fun q hq => hX t m4 q (m5 q hq)
   have hN := hO.nd m1 hbl
   have c0 := hN.nf.bit
   have c1 : kS.rd W ⟨k8, 0, none⟩ = some k := (Shp.rd_to (hO.block k8 (by omega) (by simpa using n78))).trans R83
   have hc := hB.cell
   have hf := hB.free
   have l1 := Shp.rd_lt c1
   have l0 := hN.nf.lt
   have s0 := D.sd_le k y.1.bit
   have C1 := Lib.hid (fun w => CS.out y.1.bit (by omega) w)
   have HB := Lib.hid hB
   have HO := Lib.hid hO
   have hmix : Tryz.prog.follows .mixedOrders = true := by kernel_rfl
   obtain ⟨sd, hsd⟩ : ∃ sd, D.sd k y.1.bit = sd := ⟨_, rfl⟩
   rw [hsd] at C1 s0
   have HSD := Lib.hid hsd
   have s1 : (0 : Int) ≤ (sd : Int) := by omega
   have s2 : (sd : Int) < 2 := by omega
   clear hN hB hsd m1 m2 m3 m4 m5 hX
   gi_wp2
   have sw : Below W.heap.size W W.drew := (Below.refl _ _).drew
   have sv : Ov W.heap.size [k7] W W.drew := (Ov.refl _ _ _).on (Nat.le_refl _) sw
   have h8 : k8 ∉ [k7] := by simpa using n78
   have hy7 := (hbl y.1.ad y.1.ad_mem).2
   refine region_round (S := fun V => Ov W.heap.size [k7] W V) (R := fun _ w' => ∃ w4, Below W.heap.size W w4 ∧ w' = w4.setCell ⟨k7, 0, none⟩ (.pointer (some ⟨y.1.ad, 1 + sd, none⟩))) hmix (by kernel_rfl) sv (fun sd0 => ?_) ?_
   refine takeT 0 (some 19) ?vb0 ?hyb0 sd0 ?restb0
   case hyb0 => (intro o ho W hW; simp only [gT, gS, gZ, sI] at ho; subst ho; (try dsimp only at hW); go_simp; try rfl)
   try simp only [Act.put, iT, iZ, iS]
   refine takeT 1 (some 20) ?vb1 ?hyb1 sd0 ?restb1
   case hyb1 => (intro o ho W hW; simp only [gT, gS, gZ, sI] at ho; subst ho; (try dsimp only at hW); have g1 := (Shp.rd_to (hW.block k8 l1 h8)).trans c1; go_simp; try rfl)
   try simp only [Act.put, iT, iZ, iS]
   refine takeT 2 (some 21) ?vb2 ?hyb2 sd0 ?restb2
   case hyb2 => (intro o ho W hW; simp only [gT, gS, gZ, sI] at ho; subst ho; (try dsimp only at hW); go_simp; try rfl)
   try simp only [Act.put, iT, iZ, iS]
   refine takeT 3 (some 22) ?vb3 ?hyb3 sd0 ?restb3
   case hyb3 => (intro o ho W hW; simp only [gT, gS, gZ, sI] at ho; subst ho; (try dsimp only at hW); go_simp; try rfl)
   try simp only [Act.put, iT, iZ, iS]
   refine takeT 4 (some 23) ?vb4 ?hyb4 sd0 ?restb4
   case hyb4 => (intro o ho W hW; simp only [gT, gS, gZ, sI] at ho; subst ho; (try dsimp only at hW); go_simp; try rfl)
   try simp only [Act.put, iT, iZ, iS]
   refine takeT 5 (some 24) ?vb5 ?hyb5 sd0 ?restb5
   case hyb5 => (intro o ho W hW; simp only [gT, gS, gZ, sI] at ho; subst ho; (try dsimp only at hW); have g2 := (World.cell?_of_block (hW.block y.1.ad l0 hy7)).trans c0; go_simp; try rfl)
   try simp only [Act.put, iT, iZ, iS]
   refine takeT 7 (some 26) ?vb7 ?hyb7 sd0 ?restb7
   case hyb7 => (intro o ho W hW; simp only [gT, gS, gZ, sI] at ho; subst ho; (try dsimp only at hW); go_simp; try rfl)
   try simp only [Act.put, iT, iZ, iS]
   refine takeT 8 (some 27) ?vb8 ?hyb8 sd0 ?restb8
   case hyb8 => (intro o ho W hW; simp only [gT, gS, gZ, sI] at ho; subst ho; (try dsimp only at hW); go_simp; try rfl)
   try simp only [Act.put, iT, iZ, iS]
   refine nextS 6 (by kernel_rfl) (by rfl) (fun o ho K hK => ?_)
   simp only [gT, gS, gZ, sI] at ho; subst ho
   go_simp
   (go_at_call 132; (with_reducible refine (C1.out _).mono ?_); rintro e w4 ⟨rfl, b4⟩)
   have s4 : Below W.heap.size W w4 := below_up sw sw.size b4
   have s5 := sv.on (Nat.le_refl _) b4
   refine hK.out _ _ s5 (fun _ => ?_)
   clear hK K
   try simp only [Act.put, iT, iZ, iS]
   refine takeT 9 (some 28) ?vb9 ?hyb9 s5 ?restb9
   case hyb9 => (intro o ho W hW; simp only [gT, gS, gZ, sI] at ho; subst ho; (try dsimp only at hW); go_simp; try rfl)
   try simp only [Act.put, iT, iZ, iS]
   have B4 := HB.out.on s4
   have hc4 := B4.cell
   have hf4 := B4.free
   refine nextS 10 (by kernel_rfl) (by rfl) (fun o ho K hK => ?_)
   simp only [gT, gS, gZ, sI] at ho; subst ho
   go_simp
   have s6 := s5.set (a := ⟨k7, 0, none⟩) (by simp) (.pointer (some ⟨y.1.ad, 1 + sd, none⟩))
   refine hK.out _ _ s6 (fun _ => ?_)
   clear hK K
   try simp only [Act.put, iT, iZ, iS]
   refine wpAnyH_done (by kernel_rfl) ?_ _
   exact ⟨w4, s4, rfl⟩
   rintro a' w' ⟨w4, b4, rfl⟩
   have hO4 := HO.out.on (Nat.le_refl _) b4
   have hB4 := HB.out.on b4
   refine ⟨?_, ?_, ?_, ?_⟩
   ·exact (((KeepsOthers.of_grownBy (grown_none b4) (fun j o e h => by cases e)).trans (KeepsOthers.setCell _ _ _))).from _
   ·exact (Kp.below b4 hO.size).trans (Kp.set _ _ _ _ (by simp) hB4 (by decide))
   ·exact hO4.set (by simp) _
   ·rw [List.map_append, List.map_cons, List.map_nil, plc_app, HSD.out]
    exact hB4.set_ _
  case done =>
   rintro D0 ys W hD hp ⟨hO, hB⟩ hK
   have hc := hB.cell
   gi_wp2
   refine ⟨by simp, .inl ⟨_, _, rfl, run_takeDeferred hK, ?_⟩⟩
   refine ⟨_, results_tmp rfl _ _ _, by rw [← hp]; rfl, ?_⟩
   exact (below_up bw bw.size b3).trans ((hO.put hD _).below (by have := b3.size; have := bw.size; omega) (fun x hx => by simp at hx; omega))
  case stop =>
   rintro D0 c pre W _ _ h _
   exact h.elim
end Go.Proofs.YtjlaffgbmcpldaaGreatDoor
set_option linter.unusedVariables false
set_option linter.unusedSimpArgs false
set_option maxRecDepth 100000
namespace Go.Proofs.YtjlaffgbmcpldaaGreatDoor
open Go.RowKit
attribute [local go_sem ↓] Go.wp_at_zero Go.wp_at_succ ld_k lv_k st_k eq_k ne_k bd_k ld_b lv_b st_b eq_b ne_b bd_25 ld_r lv_r st_rk eq_rk ne_rk bd_r ld_p lv_p st_px bd_p Nm.ld_a Nm.ld_n Nm.st_a Nm.st_n Nm.eq_a Nm.eq_n Nm.ne_a Nm.ne_n Nm.lv_a Nm.lv_n ld_a ld_n st_a st_n eq_a eq_n ne_a ne_n lv_a lv_n ld_l lv_l st_l bd_l bd_n bs_k
attribute [local go_sem] run_ldk run_lvk run_stk run_eqk run_nek run_bdk_z run_ldb run_lvb run_stb run_eqb run_neb run_ldr run_lvr run_strk run_eqrk run_nerk run_bdr_z run_ldp run_lvp run_stpx Nm.run_ld_a Nm.run_ld_n Nm.run_st_n Nm.run_eq_a Nm.run_eq_n Nm.run_ne_a Nm.run_ne_n Nm.run_lv_a Nm.run_lv_n Nm.rd_new Nm.rd_old Nm.rd_drew Nm.rd_drewN run_ld_a run_ld_n run_sw_a run_sw_n run_eq_a run_eq_n run_ne_a run_ne_n run_lv_a run_lv_n st_z ne_z eq_z rd_new rd_old rd_drew rd_drewN Shp.rd_new Shp.rd_old Shp.rd_drew Shp.rd_drewN Shp.rd_set Shp.tn_new Shp.tn_old Shp.tn_drew Shp.tn_drewN tn_new tn_old tn_drew tn_drewN rd_set setRow_alloc run_stn3 run_stt15 run_lvl run_ldl run_stl run_bdl run_bdn run_bdn0 run_bsk Shp.rd_extk cell_ext
def hld (k : D.Ky) : Option Tk → Option Addr
 | none => none
 | some t => if (t.near k).hd.1 = k then some ⟨(t.near k).ad, 0, none⟩ else none
theorem subo_near {w : World} {g : Nat} {t : Tk} (h : TR w g (some t)) (k : D.Ky) : subo k 200 (some t) = some (t.near k) := by
 rw [Cr.Tr.near_sub (h.wf t rfl)]; rfl
theorem nd_sub {w : World} {k : D.Ky} {d : Nat} : ∀ {t : Tk}, Nd w t → Nd w (t.sub k d) ∧ ∀ q ∈ (t.sub k d).bl, q ∈ t.bl
 | .lf _ _ _, h => ⟨h, fun q hq => hq⟩
 | .br a b l r, h => by
  simp only [Cr.Tr.sub]
  split
  ·split
   ·obtain ⟨h1, h2⟩ := nd_sub (k := k) (d := d) h.2.2
    exact ⟨h1, fun q hq => by simp [Cr.Tr.bl, h2 q hq]⟩
   ·obtain ⟨h1, h2⟩ := nd_sub (k := k) (d := d) h.2.1
    exact ⟨h1, fun q hq => by simp [Cr.Tr.bl, h2 q hq]⟩
  ·exact ⟨h, fun q hq => hq⟩
theorem nd_near {w : World} {g : Nat} {t : Tk} (h : TR w g (some t)) (k : D.Ky) : Nd w (t.near k) := by
 rw [Cr.Tr.near_sub (h.wf t rfl)]; exact (nd_sub (h.nd t rfl)).1
theorem place200 (g : Nat) (o : Option Tk) (k : D.Ky) (w : World) (hT : TR w g o) : Calls Tryz.prog 105 #[.pointer (some ⟨g, 0, none⟩), .agg (kS.v k), .int .i64 200] w fun e w' => e = .returned (.pointer (some (plc k ⟨g, 0, none⟩ (pth k 200 o)))) ∧ Below w.heap.size w w' := place_any g o k 200 (by omega) w hT
set_option maxHeartbeats 4000000 in
theorem held_any (g : Nat) (o : Option Tk) (k : D.Ky) (w : World) (hT : TR w g o) : Calls Tryz.prog 121 #[.pointer (some ⟨g, 0, none⟩), .agg (kS.v k)] w fun e w' => e = .returned (.pointer (hld k o)) ∧ Below w.heap.size w w' := by
 obtain ⟨w0, hw0⟩ : ∃ w0, w.alloc (.cells (kS.v k) 39) = w0 := ⟨_, rfl⟩
 have f0 : kS.rd w0 ⟨w.heap.size, 0, none⟩ = some k := by rw [← hw0]; exact Shp.rd_new _ _ _ _ rfl
 have b0 : Below w.heap.size w w0 := by rw [← hw0]; exact below_alloc_ _ _
 have hT0 := hT.on b0
 have CP := Lib.hid (place200 g o k w0 hT0)
 cases o with
 | none =>
  clear hT
  go_enter Tryz.func121, Tryz.ntmps121
  go_wp2_with fail
  try rw [hw0]
  clear hw0
  go_wp2_with (go_at_call 105; (with_reducible refine CP.out.mono ?_); rintro e w1 ⟨rfl, b1⟩; have hc : w1.cell? (plc k ⟨g, 0, none⟩ (pth k 200 none)) = some (.pointer none) := (hT0.on b1).sub_cell (Nat.le_refl _); have z1 := below_up b0 b0.size b1)
  go_quiet (fail)
  go_wp2
  go_ret
  exact ⟨rfl, below_drewN z1 _⟩
 | some t =>
  obtain ⟨a, x, v, hn⟩ := Cr.Tr.near_lf k t
  have hs := subo_near hT k
  have C2 := Lib.hid (fun w => parting_any x k w)
  have hl := Cr.par_le x k
  have hh : hld k (some t) = if x = k then some ⟨a, 0, none⟩ else none := by unfold hld; simp only [hn]; rfl
  rw [hn] at hs
  have hr := @Cr.par_200 D.Ky _ _ x k
  obtain ⟨r, er⟩ : ∃ r, Cr.par x k = r := ⟨_, rfl⟩
  rw [er] at C2 hl hr
  have HN := Lib.hid (fun w1 (hT1 : TR w1 g (some t)) => show NF w1 a 200 none none (x, v) from by have := (nd_near hT1 k).nf; rw [hn] at this; exact this)
  rw [hh]
  clear hT er hh hn
  by_cases c : r = 200
  ·have hxk := hr.1 c
   have hd : decide ((r : Int) < 200) = false := decide_eq_false (by omega)
   rw [if_pos hxk]
   clear hxk hr
   go_enter Tryz.func121, Tryz.ntmps121
   go_wp2_with fail
   try rw [hw0]
   clear hw0
   go_wp2_with (go_at_call 105; (with_reducible refine CP.out.mono ?_); rintro e w1 ⟨rfl, b1⟩; have hc : w1.cell? (plc k ⟨g, 0, none⟩ (pth k 200 (some t))) = some (.pointer (some ⟨a, 0, none⟩)) := by { have := (hT0.on b1).sub_cell (k := k) (Nat.le_refl 200); rw [hs] at this; exact this }; have z1 := below_up b0 b0.size b1; have f1 := Shp.rd_on f0 b1; have nf := HN.out _ (hT0.on b1); have k1 := nf.key; have l1 := nf.lt; have l2 := Shp.rd_lt f1)
   refine wp_region_ext (by kernel_rfl) (by kernel_rfl) ?_
   repeat (go_big_quiet_step ((go_at_call 130; with_reducible exact calls_ext (C2.out _))))
   refine wpQuiet_nil ?_
   intro w4 hw4
   have z4 := below_up z1 z1.size (ext_to hw4)
   clear hw4
   go_wp2
   go_ret
   exact ⟨rfl, z4⟩
  ·have hxk := fun e => c (hr.2 e)
   have hd : decide ((r : Int) < 200) = true := decide_eq_true (by omega)
   rw [if_neg hxk]
   clear hxk hr
   go_enter Tryz.func121, Tryz.ntmps121
   go_wp2_with fail
   try rw [hw0]
   clear hw0
   go_wp2_with (go_at_call 105; (with_reducible refine CP.out.mono ?_); rintro e w1 ⟨rfl, b1⟩; have hc : w1.cell? (plc k ⟨g, 0, none⟩ (pth k 200 (some t))) = some (.pointer (some ⟨a, 0, none⟩)) := by { have := (hT0.on b1).sub_cell (k := k) (Nat.le_refl 200); rw [hs] at this; exact this }; have z1 := below_up b0 b0.size b1; have f1 := Shp.rd_on f0 b1; have nf := HN.out _ (hT0.on b1); have k1 := nf.key; have l1 := nf.lt; have l2 := Shp.rd_lt f1)
   refine wp_region_ext (by kernel_rfl) (by kernel_rfl) ?_
   repeat (go_big_quiet_step ((go_at_call 130; with_reducible exact calls_ext (C2.out _))))
   refine wpQuiet_nil ?_
   intro w4 hw4
   have z4 := below_up z1 z1.size (ext_to hw4)
   clear hw4
   go_wp2
   go_ret
   exact ⟨rfl, z4⟩
def got (k : D.Ky) (l : List (D.Ky × Vl)) : Vl := (Cr.get k l).getD none
theorem up_of {w : World} {g : Nat} {o : Option Tk} (h : TR w g o) : Cr.Up (Cr.Tr.lso o) := by
 cases o with
 | none => exact List.Pairwise.nil
 | some t => exact Cr.Tr.sorted (h.wf t rfl)
theorem hld_has {w : World} {g : Nat} {o : Option Tk} (h : TR w g o) (k : D.Ky) : (Cr.has k (Cr.Tr.lso o) = false ∧ hld k o = none) ∨ ∃ t a v, o = some t ∧ t.near k = .lf a k v ∧ hld k o = some ⟨a, 0, none⟩ ∧ Cr.has k (Cr.Tr.lso o) = true ∧ (k, v) ∈ t.ls := by
 cases o with
 | none => exact .inl ⟨rfl, rfl⟩
 | some t =>
  obtain ⟨a, x, v, hn⟩ := Cr.Tr.near_lf k t
  have hi := Cr.Tr.near_is (k := k) (h.wf t rfl)
  have hm := Cr.Tr.near_mem k t
  have hh : hld k (some t) = if x = k then some ⟨a, 0, none⟩ else none := by unfold hld; simp only [hn]; rfl
  rw [hn] at hi hm
  by_cases c : x = k
  ·subst c
   exact .inr ⟨t, a, v, rfl, hn, by rw [hh, if_pos rfl], Cr.has_iff.2 (hi.1 rfl), hm⟩
  ·refine .inl ⟨?_, by rw [hh, if_neg c]⟩
   cases hc : Cr.has k (Cr.Tr.lso (some t))
   ·rfl
   ·exact absurd (hi.2 (Cr.has_iff.1 hc)) c
theorem lf_nf {w : World} {g : Nat} {t : Tk} (h : TR w g (some t)) {k : D.Ky} {a : Nat} {v : Vl} (hn : t.near k = .lf a k v) : NF w a 200 none none (k, v) := by
 have := (nd_near h k).nf
 rw [hn] at this
 exact this
set_option maxHeartbeats 4000000 in
theorem get_any (g : Nat) (o : Option Tk) (k : D.Ky) (w : World) (hT : TR w g o) : Calls Tryz.prog 92 #[.pointer (some ⟨g, 0, none⟩), .agg (kS.v k)] w fun e w' => e = .returned (.tuple #[.pointer (got k (Cr.Tr.lso o)), .bool (Cr.has k (Cr.Tr.lso o))]) ∧ Below w.heap.size w w' := by
 have b0 := below_alloc_ w (.cells (kS.v k) 39)
 have hT0 := hT.on b0
 have CH := Lib.hid (held_any g o k _ hT0)
 rcases hld_has hT k with ⟨h1, h2⟩ | ⟨t, a, v, rfl, hn, h2, h3, hm⟩
 ·rw [h2] at CH
  rw [h1, got, Cr.get_none h1]
  clear h1 h2 hT
  go_enter Tryz.func92, Tryz.ntmps92
  go_wp2_with (go_at_call 121; (with_reducible refine CH.out.mono ?_); rintro e w1 ⟨rfl, b1⟩; have z1 := below_up b0 b0.size b1)
  go_ret2
  exact ⟨rfl, z1⟩
 ·rw [h2] at CH
  have hg : Cr.get k (Cr.Tr.lso (some t)) = some v := Cr.get_some (up_of hT) hm
  rw [h3, got, hg]
  have HN := Lib.hid hn
  clear h3 h2 hT hg hn hm
  go_enter Tryz.func92, Tryz.ntmps92
  go_wp2_with (go_at_call 121; (with_reducible refine CH.out.mono ?_); rintro e w1 ⟨rfl, b1⟩; have z1 := below_up b0 b0.size b1; have nf := lf_nf (hT0.on b1) HN.out; have c1 := nf.thing)
  go_ret2
  exact ⟨rfl, z1⟩
end Go.Proofs.YtjlaffgbmcpldaaGreatDoor
set_option linter.unusedVariables false
set_option linter.unusedSimpArgs false
set_option maxRecDepth 100000
namespace Go.Proofs.YtjlaffgbmcpldaaGreatDoor
open Go.RowKit

abbrev nT : TypeId := 243
theorem ndc_lo (b : Int) (p q r : Option Addr) (e : D.Ky × Vl) : (ndc b p q e).setIfInBounds 1 (.pointer r) = ndc b r q e := by simp [ndc, ndl]
theorem ndc_hi (b : Int) (p q r : Option Addr) (e : D.Ky × Vl) : (ndc b p q e).setIfInBounds 2 (.pointer r) = ndc b p r e := by simp [ndc, ndl]
theorem ndc_thing (b : Int) (p q : Option Addr) (x : D.Ky) (u v : Vl) : (ndc b p q (x, u)).setIfInBounds 28 (.pointer v) = ndc b p q (x, v) := by
 have hl := x.len
 unfold ndc
 rw [List.setIfInBounds_toArray]
 congr 1
 simp only [ndl, lcells, List.set_cons_succ]
 rw [List.set_append_right _ _ (by rw [bys_len, hl]; omega)]
 simp [bys_len, hl]
theorem nd_set {w : World} {t : Tk} (h : Nd w t) {a : Addr} (ha : a.block ∉ t.bl) (v : Value) : Nd (w.setCell a v) t := h.kept fun g hg => Below.heap_setCell w a v g (fun e => ha (by rw [← e]; exact hg))
theorem plc_in {k : D.Ky} {d : Nat} : ∀ {t : Tk} {p : Addr}, t.bit < d → d ≤ 200 → (plc k p (t.path k d)).block ∈ t.bl
 | .lf _ _ _, p, h, hd => by simp only [Cr.Tr.bit] at h; omega
 | .br a b l r, p, h, hd => by
  have h : b < d := h
  simp only [Cr.Tr.path, if_pos h]
  have key : ∀ u : Tk, (∀ q ∈ u.bl, q ∈ (Cr.Tr.br a b l r).bl) → (u.bit < d → ∀ p, (plc k p (u.path k d)).block ∈ u.bl) → (plc k p (Cr.Tr.br a b l r :: u.path k d)).block ∈ (Cr.Tr.br a b l r).bl := by
   intro u hu hi
   by_cases c : u.bit < d
   ·exact hu _ (hi c _)
   ·rw [path_out c]
    show (Cr.Tr.br a b l r).ad ∈ _
    exact Cr.Tr.ad_mem _
  split
  ·exact key r (fun q hq => by simp [Cr.Tr.bl, hq]) (fun c p => plc_in c hd)
  ·exact key l (fun q hq => by simp [Cr.Tr.bl, hq]) (fun c p => plc_in c hd)
theorem sub_self {k : D.Ky} {d : Nat} : ∀ {t : Tk}, ¬ t.bit < d → t.sub k d = t
 | .lf _ _ _, _ => rfl
 | .br a b l r, h => by
  have h : ¬ b < d := h
  simp only [Cr.Tr.sub, if_neg h]
theorem ins_mk {k : D.Ky} {v : Vl} {d a c : Nat} : ∀ {t : Tk}, ¬ t.bit < d → t.ins k v d a c = Cr.Tr.mk k v d a c t
 | .lf _ _ _, _ => rfl
 | .br a' b l r, h => by
  have h : ¬ b < d := h
  rw [Cr.Tr.ins_br, if_neg h]
theorem ins_ad {k : D.Ky} {v : Vl} {d a c : Nat} : ∀ {t : Tk}, t.bit < d → d ≤ 200 → (t.ins k v d a c).ad = t.ad
 | .lf _ _ _, h, hd => by simp only [Cr.Tr.bit] at h; omega
 | .br a' b l r, h, hd => by
  have h : b < d := h
  rw [Cr.Tr.ins_br, if_pos h]
  split <;> rfl
def newc (k : D.Ky) (d a s : Nat) : Array Value := if Cr.Bits.bt k d then ndc d (some ⟨s, 0, none⟩) (some ⟨a, 0, none⟩) (D.zK, none) else ndc d (some ⟨a, 0, none⟩) (some ⟨s, 0, none⟩) (D.zK, none)
theorem nd_mk {w : World} {k : D.Ky} {v : Vl} {d a c : Nat} {t : Tk} (h : Nd w t) (ha : Blk w a nT (ndc 200 none none (k, v))) (hc : Blk w c nT (newc k d a t.ad)) : Nd w (Cr.Tr.mk k v d a c t) := by
 unfold Cr.Tr.mk
 unfold newc at hc
 by_cases hb : Cr.Bits.bt k d = true
 ·rw [if_pos hb] at hc ⊢; exact ⟨hc, h, ha⟩
 ·rw [if_neg hb] at hc ⊢; exact ⟨hc, ha, h⟩
theorem ins_nd {w : World} {k : D.Ky} {v : Vl} {d a c : Nat} (hd : d ≤ 200) : ∀ {t : Tk} {p : Addr}, Nd w t → t.wf → t.bl.Nodup → t.bit < d → a ∉ t.bl → c ∉ t.bl → Blk w a nT (ndc 200 none none (k, v)) → Blk w c nT (newc k d a (t.sub k d).ad) →
  Nd (w.setCell (plc k p (t.path k d)) (.pointer (some ⟨c, 0, none⟩))) (t.ins k v d a c)
 | .lf _ _ _, p, _, _, _, h, _, _, _, _ => by simp only [Cr.Tr.bit] at h; omega
 | .br a' b l r, p, hN, hw, hn, h, ha, hc, hA, hC => by
  have h : b < d := h
  have hb2 : b < 200 := hw.1
  simp only [Cr.Tr.bl, List.nodup_cons, List.mem_append, not_or, List.nodup_append] at hn
  obtain ⟨⟨n1, n2⟩, nl, nr, nlr⟩ := hn
  simp only [Cr.Tr.bl, List.mem_cons, List.mem_append, not_or] at ha hc
  rw [Cr.Tr.ins_br, if_pos h]
  by_cases hbt : Cr.Bits.bt k b = true
  ·have hsd : D.sd k b = 1 := by unfold D.sd; rw [if_pos hbt]
   rw [if_pos hbt]
   simp only [Cr.Tr.path, Cr.Tr.sub, if_pos h, if_pos hbt] at hC ⊢
   by_cases hr : r.bit < d
   ·have hin := plc_in (k := k) (d := d) (p := ⟨a', 1 + D.sd k b, none⟩) hr hd
    have hI := ins_nd hd (p := ⟨a', 1 + D.sd k b, none⟩) hN.2.2 hw.2.2.2.2.2 nr hr ha.2.2 hc.2.2 hA hC
    refine ⟨?_, nd_set hN.2.1 (fun e => nlr _ e _ hin rfl) _, hI⟩
    rw [ins_ad hr hd]
    exact ⟨(Below.heap_setCell w _ _ a' (fun e => n2 (by rw [e]; exact hin))).trans hN.1.out⟩
   ·rw [path_out hr, ins_mk hr]
    rw [sub_self hr] at hC
    show Nd (w.setCell ⟨a', 1 + D.sd k b, none⟩ _) _
    rw [hsd]
    have hset := hN.1.put 2 (.pointer (some ⟨c, 0, none⟩))
    rw [ndc_hi] at hset
    refine ⟨?_, nd_set hN.2.1 n1 _, nd_mk (nd_set hN.2.2 n2 _) ⟨(Below.heap_setCell w _ _ a ha.1).trans hA.out⟩ ⟨(Below.heap_setCell w _ _ c hc.1).trans hC.out⟩⟩
    have : (Cr.Tr.mk k v d a c r).ad = c := by unfold Cr.Tr.mk; split <;> rfl
    rw [this]; exact hset
  ·have hsd : D.sd k b = 0 := by unfold D.sd; rw [if_neg hbt]
   rw [if_neg hbt]
   simp only [Cr.Tr.path, Cr.Tr.sub, if_pos h, if_neg hbt] at hC ⊢
   by_cases hr : l.bit < d
   ·have hin := plc_in (k := k) (d := d) (p := ⟨a', 1 + D.sd k b, none⟩) hr hd
    have hI := ins_nd hd (p := ⟨a', 1 + D.sd k b, none⟩) hN.2.1 hw.2.2.2.2.1 nl hr ha.2.1 hc.2.1 hA hC
    refine ⟨?_, hI, nd_set hN.2.2 (fun e => nlr _ hin _ e rfl) _⟩
    rw [ins_ad hr hd]
    exact ⟨(Below.heap_setCell w _ _ a' (fun e => n1 (by rw [e]; exact hin))).trans hN.1.out⟩
   ·rw [path_out hr, ins_mk hr]
    rw [sub_self hr] at hC
    show Nd (w.setCell ⟨a', 1 + D.sd k b, none⟩ _) _
    rw [hsd]
    have hset := hN.1.put 1 (.pointer (some ⟨c, 0, none⟩))
    rw [ndc_lo] at hset
    refine ⟨?_, nd_mk (nd_set hN.2.1 n1 _) ⟨(Below.heap_setCell w _ _ a ha.1).trans hA.out⟩ ⟨(Below.heap_setCell w _ _ c hc.1).trans hC.out⟩, nd_set hN.2.2 n2 _⟩
    have : (Cr.Tr.mk k v d a c l).ad = c := by unfold Cr.Tr.mk; split <;> rfl
    rw [this]; exact hset
theorem mk_bl {k : D.Ky} {v : Vl} {d a c : Nat} (t : Tk) : (Cr.Tr.mk k v d a c t).bl.Perm (c :: a :: t.bl) := by
 unfold Cr.Tr.mk
 split
 ·simp only [Cr.Tr.bl]; exact List.Perm.cons _ (List.perm_append_comm)
 ·exact List.Perm.refl _
theorem perm_mid {x : List Nat} {c a : Nat} {l r : List Nat} (h : r.Perm (c :: a :: x)) : (l ++ r).Perm (c :: a :: (l ++ x)) := by
 refine (List.Perm.append_left l h).trans ?_
 refine (List.perm_middle).trans (List.Perm.cons _ ?_)
 exact List.perm_middle
theorem ins_bl {k : D.Ky} {v : Vl} {d a c : Nat} : ∀ t : Tk, (t.ins k v d a c).bl.Perm (c :: a :: t.bl)
 | .lf a' x u => mk_bl _
 | .br a' b l r => by
  rw [Cr.Tr.ins_br]
  have sw : ∀ {m x : List Nat}, m.Perm (c :: a :: x) → (a' :: m).Perm (c :: a :: a' :: x) := fun h => (List.Perm.cons _ h).trans ((List.Perm.swap _ _ _).trans (List.Perm.cons _ (List.Perm.swap _ _ _)))
  split
  ·split
   ·exact sw (perm_mid (ins_bl r))
   ·simp only [Cr.Tr.bl]
    exact sw ((List.Perm.append_right r.bl (ins_bl l)).trans (List.Perm.refl _))
  ·exact mk_bl _
def blo (o : Option Tk) : List Nat := match o with | none => [] | some t => t.bl
theorem upd_nd {w : World} {k : D.Ky} {u : Vl} {a : Nat} {v : Vl} : ∀ {t : Tk}, Nd w t → t.bl.Nodup → t.near k = .lf a k v → Nd (w.setCell ⟨a, 28, none⟩ (.pointer u)) (t.upd k u) ∧ (t.upd k u).ad = t.ad ∧ (t.upd k u).bl = t.bl ∧ a ∈ t.bl
 | .lf a' x y, hN, _, hn => by
  simp only [Cr.Tr.near, Cr.Tr.lf.injEq] at hn
  obtain ⟨rfl, rfl, rfl⟩ := hn
  have := hN.put 28 (.pointer u)
  rw [ndc_thing] at this
  refine ⟨?_, rfl, rfl, by simp [Cr.Tr.bl]⟩
  simp only [Cr.Tr.upd, if_true]
  exact this
 | .br a' b l r, hN, hn, hk => by
  simp only [Cr.Tr.bl, List.nodup_cons, List.mem_append, not_or, List.nodup_append] at hn
  obtain ⟨⟨n1, n2⟩, nl, nr, nlr⟩ := hn
  simp only [Cr.Tr.near] at hk
  simp only [Cr.Tr.upd]
  by_cases hbt : Cr.Bits.bt k b = true
  ·rw [if_pos hbt] at hk ⊢
   obtain ⟨h1, h2, h3, h4⟩ := upd_nd (u := u) hN.2.2 nr hk
   refine ⟨⟨?_, nd_set hN.2.1 (fun e => nlr _ e _ h4 rfl) _, h1⟩, rfl, by simp only [Cr.Tr.bl, h3], by simp [Cr.Tr.bl, h4]⟩
   rw [h2]
   exact ⟨(Below.heap_setCell w _ _ a' (fun e => n2 (by rw [e]; exact h4))).trans hN.1.out⟩
  ·rw [if_neg hbt] at hk ⊢
   obtain ⟨h1, h2, h3, h4⟩ := upd_nd (u := u) hN.2.1 nl hk
   refine ⟨⟨?_, h1, nd_set hN.2.2 (fun e => nlr _ h4 _ e rfl) _⟩, rfl, by simp only [Cr.Tr.bl, h3], by simp [Cr.Tr.bl, h4]⟩
   rw [h2]
   exact ⟨(Below.heap_setCell w _ _ a' (fun e => n1 (by rw [e]; exact h4))).trans hN.1.out⟩
end Go.Proofs.YtjlaffgbmcpldaaGreatDoor
