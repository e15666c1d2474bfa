/-
  The document's Put; a version as the document's; a version cut.
-/
import Derived.Test.YtcnbdfobhablbaaChc
import Derived.Test.YtcnbdfobhablbaaChd
set_option linter.unusedVariables false
set_option linter.unusedSimpArgs false
set_option maxRecDepth 100000
namespace Go.Proofs.Ytcnbdfobhablbaa
open Go.RowKit
attribute [local go_sem ↓] Go.wp_at_zero Go.wp_at_succ ld_v lv_v st_v ne_v bd_v bs_v ld_w lv_w st_w ne_w bd_w bs_w ld_r ld_d lv_r lv_d st_r st_d ne_r eq_r ne_d bd_r bd_d
attribute [local go_sem] run_ldv run_lvv run_stv run_nev run_bdv_z run_bdv_d run_bdv_r run_bsv1 run_bsv0 run_ldw run_lvw run_stw run_new run_bdw_3 run_bsw1 run_bsw0 run_ldr run_ldd run_lvr run_lvd run_str run_std run_ner run_eqr run_ned run_bdr0 run_bdd0 run_bdr1 run_bdd1 run_bdd9 Shp.rd_new Shp.rd_old Shp.rd_drew Shp.rd_drewN Shp.rd_set Shp.tn_new Shp.tn_old Shp.tn_drew Shp.tn_drewN setRow_alloc vv_0 vv_1 wv_0 wv_1 run_fdv0 run_fdv1 Shp.rd_extk cell_ext
/-- What Put answers: the list as it is then. -/
def D.pt (l : List D.Vn) (v : D.Vn) : List D.Vn := if D.per l v = 0 then l ++ [v] else l
/-- .. in memory, in blocks of the document's. -/
def DPut (w : World) (l : List D.Vn) (v : D.Vn) (e : Ending) (w' : World) : Prop := ∃ A' c', e = .returned (.tuple #[.slice A' (D.pt l v).length c', .int .i64 (D.per l v : Nat)]) ∧ DR w' A' (D.pt l v).length (D.pt l v) ∧ Below w.heap.size w w'
theorem D.pt_bad {l : List D.Vn} {v : D.Vn} (h : D.per l v ≠ 0) : D.pt l v = l := if_neg h
theorem D.pt_ok {l : List D.Vn} {v : D.Vn} (h : D.per l v = 0) : D.pt l v = l ++ [v] := if_pos h
theorem rw_kept {sz n : Nat} {w w' : World} {g : Nat} {xs : List Value} {row : Option Nat} (h : Rw sz w (some ⟨g, 0, none⟩) n xs) (hg : w.grownBy w' row) (hne : some g ≠ row) (hl : g < w.heap.size) : Rw sz w' (some ⟨g, 0, none⟩) n xs :=
  h.kept hg.size fun ad e => by injection e with e; subst e; exact hg.block g hl hne
set_option maxHeartbeats 4000000 in
theorem dput_any {w : World} {A : Option Addr} {n c : Nat} {l : List D.Vn} (hr : DR w A n l) (hn : n ≤ 100000) (v : D.Vn) :
    Calls Try.prog 11 #[.slice A n c, .agg (wS.v v)] w (DPut w l v) := by
  have hlen := hr.row.len
  have q0 := Shp.rd_new (S := wS) w w.heap.size 44 v rfl
  have b0 := below_alloc_ w (.cells (wS.v v) 44)
  obtain ⟨w0, hw0⟩ : ∃ w0, w.alloc (.cells (wS.v v) 44) = w0 := ⟨_, rfl⟩
  rw [hw0] at q0 b0
  obtain ⟨q1, q2, q3⟩ := wf_ q0
  have HR := Lib.hid (hr.on b0)
  have HR0 := Lib.hid hr
  have bad : ∀ e : Nat, D.per l v = e → e ≠ 0 → ∀ w', Below w.heap.size w w' → DPut w l v (.returned (.tuple #[.slice A n c, .int .i64 (e : Nat)])) w' := fun e he h0 w' hb => by
    refine ⟨A, c, ?_, ?_, hb⟩
    · rw [he, D.pt_bad (by rw [he]; exact h0), hlen]
    · rw [D.pt_bad (by rw [he]; exact h0), hlen]; exact HR0.out.on hb
  have BAD := Lib.hid bad
  have CK := Lib.hid (fun w => rcheck_any v.r w)
  clear bad hr
  have CN := Lib.hid (fun (W : World) (hb : Below w0.heap.size w0 W) => dnewest_any (c := c) (HR.out.on hb).row (by omega))
  by_cases h0 : D.wgh v = 0
  · have HG := Lib.hid h0
    cases hd : v.d with
    | true =>
      have hz := D.dead_rec h0 hd
      have hze : decide (v.r = D.zRc) = true := decide_eq_true hz
      rw [hd] at q2
      clear h0 hz
      go_enter Try.func11, Try.ntmps11
      go_wp2_with fail
      try rw [hw0]
      obtain ⟨w2, hw2⟩ : ∃ w2, w0 = w2 := ⟨_, rfl⟩
      have b2 : Below w0.heap.size w0 w2 := by rw [← hw2]; exact Below.refl _ _
      try rw [hw2]
      clear hw2
      have r2 := Shp.rd_on q0 b2
      have lt2 := Shp.rd_lt r2
      obtain ⟨c1, -, -⟩ := wf_ r2
      have CN2 : Hid (∀ o : On, Calls Try.prog 28 #[.slice A n c] (ext w2 o) fun e w' => e = .returned (.int .u64 (D.nwt l : Nat)) ∧ Below (ext w2 o).heap.size (ext w2 o) w') := fun o => (CN.out _ (below_up b2 b2.size (ext_below w2 o))).mono fun _ _ ⟨h1, h2⟩ => ⟨h1, by rw [h2]; exact Below.refl _ _⟩
      refine wp_region_ext (by kernel_rfl) (by kernel_rfl) ?_
      repeat (go_big_quiet_step ((go_at_call 28; with_reducible exact calls_ext (CN2.out _))))
      refine wpQuiet_nil ?_
      intro w3 hw3
      have b3 := ext_to hw3
      have r3 := Shp.rd_on r2 b3
      have hZ := Lib.hid (below_up (below_up b0 b0.size b2) (below_up b0 b0.size b2).size b3)
      have HR3 := Lib.hid ((HR.out.on b2).on b3)
      clear hw3 c1 lt2 CN2 r2 q0 q1 q2 q3
      by_cases h1 : v.a ≤ D.nwt l
      · have hper : D.per l v = 21 := by rw [D.per, if_neg (by simp [HG.out]), if_pos h1]
        have h1i : (v.a : Int) ≤ (D.nwt l : Int) := by omega
        have HP := Lib.hid hper
        clear h1 hper
        go_wp2
        go_ret2
        exact BAD.out 21 HP.out (by decide) _ hZ.out
      · have hper : D.per l v = 0 := by rw [D.per, if_neg (by simp [HG.out]), if_neg h1]
        have h1i : ¬ ((v.a : Int) ≤ (D.nwt l : Int)) := by omega
        have HP := Lib.hid hper
        clear h1 hper
        go_wp2_with fail
        obtain ⟨w4, hw4⟩ : ∃ w4, w3.drew = w4 := ⟨_, rfl⟩
        have b4 : Below w3.heap.size w3 w4 := by rw [← hw4]; exact (Below.refl _ _).drew
        have r4 := Shp.rd_on r3 b4
        have rl4 : w.heap.size < w4.heap.size := Shp.rd_lt r4
        have HR4 := Lib.hid ((HR3.out.on b4).row)
        refine wp_region_noPanic ?_
        refine wp_region_held_drew (S := fun W => wS.rd W ⟨w.heap.size, 0, none⟩ = some v) (by kernel_rfl) (by rw [hw4]; exact r4) (fun sd => ?_)
        rw [hw4]
        refine takeS 1 (some 33) ?va11 (by kernel_rfl) (by kernel_rfl) (by kernel_rfl) (by kernel_rfl) (fun _ _ _ h => h) (by rfl) ?hya11 r4 ?resta11
        case hya11 => (intro o ho W hW; simp only [List.getElem?_toArray, List.getElem?_cons_succ, List.getElem?_cons_zero, Option.some.injEq] at ho; subst ho; (try dsimp only at hW); skip; go_simp; try rfl)
        try simp only [Act.put, List.setIfInBounds_toArray, List.set_cons_zero, List.set_cons_succ]
        refine takeS 3 (some 35) (.agg (wS.v v)) (by kernel_rfl) (by kernel_rfl) (by kernel_rfl) (by kernel_rfl) (fun _ _ _ h => h) (by rfl) ?hya23 r4 ?resta23
        case hya23 => (intro o ho W hW; simp only [List.getElem?_toArray, List.getElem?_cons_succ, List.getElem?_cons_zero, Option.some.injEq] at ho; subst ho; (try dsimp only at hW); skip; go_simp; try rfl)
        try simp only [Act.put, List.setIfInBounds_toArray, List.set_cons_zero, List.set_cons_succ]
        refine forkS 0 4 (by kernel_rfl) (by rfl) (by rfl) (fun o ho K hK => ?_) (fun o ho K hK => ?_)
        · simp only [List.getElem?_toArray, List.getElem?_cons_succ, List.getElem?_cons_zero, Option.some.injEq] at ho; subst ho
          go_simp
          have a1 := below_alloc_ w4 (.cells #[] 44)
          refine hK.out _ _ (Shp.rd_on r4 a1) (fun _ => ?_)
          clear hK K
          try simp only [Act.put, List.setIfInBounds_toArray, List.set_cons_zero, List.set_cons_succ]
          obtain ⟨ya1, hya1⟩ : ∃ V, w4.alloc (.cells #[] 44) = V := ⟨_, rfl⟩
          have z1 : Kept (ya1.heap.size = w4.heap.size + 1) := ⟨by rw [← hya1]; simp⟩
          rw [hya1] at a1
          have b_1 := below_up (Below.refl w4.heap.size w4) (Below.refl w4.heap.size w4).size a1
          have s1 := Shp.rd_on r4 a1
          have E1 : Ow 44 11 w4.heap.size ya1 (some ⟨w4.heap.size, 0, none⟩) 0 0 [] := by rw [← hya1]; exact ⟨World.ownsRow_lit w4 #[] 0 (Below.refl w4.heap.size w4).size (by simp [maxLen]) rfl, by have := (Below.refl w4.heap.size w4).size; first | (simp; done) | (simp; omega)⟩
          rw [hya1]
          clear hya1
          refine forkS 2 4 (by kernel_rfl) (by rfl) (by rfl) (fun o ho K hK => ?_) (fun o ho K hK => ?_)
          · simp only [List.getElem?_toArray, List.getElem?_cons_succ, List.getElem?_cons_zero, Option.some.injEq] at ho; subst ho
            refine wp_gapp _ Try.underlying27 dver_info rfl (by decide) (by decide) (.tmp 32) (.tmp 33) rfl rfl E1 rfl (wrw (HR4.out.on b_1)) (wS.rcs_one l) (by omega) ?_
            intro Aa2 ca2 ya2 o2 hg2 hat2
            rw [List.nil_append] at o2
            rw [Nat.zero_add] at o2 ⊢
            have b_2 := b_1.grown hg2 b_1.size (fun q hq => (E1.lt q hq).1)
            have s2 : wS.rd ya2 ⟨w.heap.size, 0, none⟩ = some v := (Shp.rd_to (hg2.block _ (Shp.rd_lt s1) fun e => Nat.not_lt_of_le (E1.lt _ e.symm).1 rl4)).trans s1
            refine hK.out _ _ s2 (fun _ => ?_)
            clear hK K
            try simp only [Act.put, List.setIfInBounds_toArray, List.set_cons_zero, List.set_cons_succ]
            refine nextS 4 (by kernel_rfl) (by rfl) (fun o ho K hK => ?_)
            simp only [List.getElem?_toArray, List.getElem?_cons_succ, List.getElem?_cons_zero, Option.some.injEq] at ho; subst ho
            go_simp
            have a3 := below_alloc_ ya2 (.cells (wS.v v) 44)
            refine hK.out _ _ (Shp.rd_on s2 a3) (fun _ => ?_)
            clear hK K
            try simp only [Act.put, List.setIfInBounds_toArray, List.set_cons_zero, List.set_cons_succ]
            obtain ⟨ya3, hya3⟩ : ∃ V, ya2.alloc (.cells (wS.v v) 44) = V := ⟨_, rfl⟩
            have z3 : Kept (ya3.heap.size = ya2.heap.size + 1) := ⟨by rw [← hya3]; simp⟩
            rw [hya3] at a3
            have b_3 := below_up b_2 b_2.size a3
            have s3 := Shp.rd_on s2 a3
            have F3 := o2.on a3
            have X3 : Rw 11 ya3 (some ⟨ya2.heap.size, 0, none⟩) 1 (wS.cs v) := by rw [← hya3]; exact rw_new ya2 11 44 1 (wS.v v) (by rw [wS.v_size]; rfl)
            rw [hya3]
            clear hya3
            refine nextS 5 (by kernel_rfl) (by rfl) (fun o ho K hK => ?_)
            simp only [List.getElem?_toArray, List.getElem?_cons_succ, List.getElem?_cons_zero, Option.some.injEq] at ho; subst ho
            refine wp_gapp _ Try.underlying27 dver_info rfl (by decide) (by decide) (.tmp 34) (.tmp 36) rfl rfl F3 rfl X3 (wS.one v) (by omega) ?_
            intro Aa4 ca4 ya4 o4 hg4 hat4
            have b_4 := b_3.grown hg4 b_3.size (fun q hq => (F3.lt q hq).1)
            have s4 : wS.rd ya4 ⟨w.heap.size, 0, none⟩ = some v := (Shp.rd_to (hg4.block _ (Shp.rd_lt s3) fun e => Nat.not_lt_of_le (F3.lt _ e.symm).1 rl4)).trans s3
            refine hK.out _ _ s4 (fun _ => ?_)
            clear hK K
            try simp only [Act.put, List.setIfInBounds_toArray, List.set_cons_zero, List.set_cons_succ]
            refine takeS 6 (some 4) ?va36 (by kernel_rfl) (by kernel_rfl) (by kernel_rfl) (by kernel_rfl) (fun _ _ _ h => h) (by rfl) ?hya36 s4 ?resta36
            case hya36 => (intro o ho W hW; simp only [List.getElem?_toArray, List.getElem?_cons_succ, List.getElem?_cons_zero, Option.some.injEq] at ho; subst ho; (try dsimp only at hW); skip; go_simp; try rfl)
            try simp only [Act.put, List.setIfInBounds_toArray, List.set_cons_zero, List.set_cons_succ]
            refine takeS 7 (some 5) ?va47 (by kernel_rfl) (by kernel_rfl) (by kernel_rfl) (by kernel_rfl) (fun _ _ _ h => h) (by rfl) ?hya47 s4 ?resta47
            case hya47 => (intro o ho W hW; simp only [List.getElem?_toArray, List.getElem?_cons_succ, List.getElem?_cons_zero, Option.some.injEq] at ho; subst ho; (try dsimp only at hW); skip; go_simp; try rfl)
            try simp only [Act.put, List.setIfInBounds_toArray, List.set_cons_zero, List.set_cons_succ]
            refine wpAnyH_done (by kernel_rfl) ?_ _
            refine NoPanic.normal ?_
            go_wp2
            go_ret2
            refine ⟨Aa4, ca4, by rw [HP.out, D.pt_ok HP.out]; simp [hlen], ?_, (hZ.out.trans (b4.mono hZ.out.size)).trans (b_4.mono (Nat.le_trans hZ.out.size b4.size))⟩
            rw [D.pt_ok HP.out, List.length_append, hlen]
            exact DR.of (by rw [rcs_snoc]; exact o4)
          · simp only [List.getElem?_toArray, List.getElem?_cons_succ, List.getElem?_cons_zero, Option.some.injEq] at ho; subst ho
            go_simp
            have a5 := below_alloc_ ya1 (.cells (wS.v v) 44)
            refine hK.out _ _ (Shp.rd_on s1 a5) (fun _ => ?_)
            clear hK K
            try simp only [Act.put, List.setIfInBounds_toArray, List.set_cons_zero, List.set_cons_succ]
            obtain ⟨ya5, hya5⟩ : ∃ V, ya1.alloc (.cells (wS.v v) 44) = V := ⟨_, rfl⟩
            have z5 : Kept (ya5.heap.size = ya1.heap.size + 1) := ⟨by rw [← hya5]; simp⟩
            rw [hya5] at a5
            have b_5 := below_up b_1 b_1.size a5
            have s5 := Shp.rd_on s1 a5
            have E5 := E1.on a5
            have X5 : Rw 11 ya5 (some ⟨ya1.heap.size, 0, none⟩) 1 (wS.cs v) := by rw [← hya5]; exact rw_new ya1 11 44 1 (wS.v v) (by rw [wS.v_size]; rfl)
            rw [hya5]
            clear hya5
            refine nextS 2 (by kernel_rfl) (by rfl) (fun o ho K hK => ?_)
            simp only [List.getElem?_toArray, List.getElem?_cons_succ, List.getElem?_cons_zero, Option.some.injEq] at ho; subst ho
            refine wp_gapp _ Try.underlying27 dver_info rfl (by decide) (by decide) (.tmp 32) (.tmp 33) rfl rfl E5 rfl (wrw (HR4.out.on b_5)) (wS.rcs_one l) (by omega) ?_
            intro Aa6 ca6 ya6 o6 hg6 hat6
            rw [List.nil_append] at o6
            rw [Nat.zero_add] at o6 ⊢
            have b_6 := b_5.grown hg6 b_5.size (fun q hq => (E5.lt q hq).1)
            have s6 : wS.rd ya6 ⟨w.heap.size, 0, none⟩ = some v := (Shp.rd_to (hg6.block _ (Shp.rd_lt s5) fun e => Nat.not_lt_of_le (E5.lt _ e.symm).1 rl4)).trans s5
            have X6 := rw_kept X5 hg6 (fun e => by have h : ya1.heap.size = w4.heap.size := Option.some.inj e; have := z1.out; have := z5.out; omega) (by have := z1.out; have := z5.out; omega)
            refine hK.out _ _ s6 (fun _ => ?_)
            clear hK K
            try simp only [Act.put, List.setIfInBounds_toArray, List.set_cons_zero, List.set_cons_succ]
            refine nextS 5 (by kernel_rfl) (by rfl) (fun o ho K hK => ?_)
            simp only [List.getElem?_toArray, List.getElem?_cons_succ, List.getElem?_cons_zero, Option.some.injEq] at ho; subst ho
            refine wp_gapp _ Try.underlying27 dver_info rfl (by decide) (by decide) (.tmp 34) (.tmp 36) rfl rfl o6 rfl X6 (wS.one v) (by omega) ?_
            intro Aa7 ca7 ya7 o7 hg7 hat7
            have b_7 := b_6.grown hg7 b_6.size (fun q hq => (o6.lt q hq).1)
            have s7 : wS.rd ya7 ⟨w.heap.size, 0, none⟩ = some v := (Shp.rd_to (hg7.block _ (Shp.rd_lt s6) fun e => Nat.not_lt_of_le (o6.lt _ e.symm).1 rl4)).trans s6
            refine hK.out _ _ s7 (fun _ => ?_)
            clear hK K
            try simp only [Act.put, List.setIfInBounds_toArray, List.set_cons_zero, List.set_cons_succ]
            refine takeS 6 (some 4) ?va56 (by kernel_rfl) (by kernel_rfl) (by kernel_rfl) (by kernel_rfl) (fun _ _ _ h => h) (by rfl) ?hya56 s7 ?resta56
            case hya56 => (intro o ho W hW; simp only [List.getElem?_toArray, List.getElem?_cons_succ, List.getElem?_cons_zero, Option.some.injEq] at ho; subst ho; (try dsimp only at hW); skip; go_simp; try rfl)
            try simp only [Act.put, List.setIfInBounds_toArray, List.set_cons_zero, List.set_cons_succ]
            refine takeS 7 (some 5) ?va67 (by kernel_rfl) (by kernel_rfl) (by kernel_rfl) (by kernel_rfl) (fun _ _ _ h => h) (by rfl) ?hya67 s7 ?resta67
            case hya67 => (intro o ho W hW; simp only [List.getElem?_toArray, List.getElem?_cons_succ, List.getElem?_cons_zero, Option.some.injEq] at ho; subst ho; (try dsimp only at hW); skip; go_simp; try rfl)
            try simp only [Act.put, List.setIfInBounds_toArray, List.set_cons_zero, List.set_cons_succ]
            refine wpAnyH_done (by kernel_rfl) ?_ _
            refine NoPanic.normal ?_
            go_wp2
            go_ret2
            refine ⟨Aa7, ca7, by rw [HP.out, D.pt_ok HP.out]; simp [hlen], ?_, (hZ.out.trans (b4.mono hZ.out.size)).trans (b_7.mono (Nat.le_trans hZ.out.size b4.size))⟩
            rw [D.pt_ok HP.out, List.length_append, hlen]
            exact DR.of (by rw [rcs_snoc]; exact o7)
        · simp only [List.getElem?_toArray, List.getElem?_cons_succ, List.getElem?_cons_zero, Option.some.injEq] at ho; subst ho
          go_simp
          have a8 := below_alloc_ w4 (.cells (wS.v v) 44)
          refine hK.out _ _ (Shp.rd_on r4 a8) (fun _ => ?_)
          clear hK K
          try simp only [Act.put, List.setIfInBounds_toArray, List.set_cons_zero, List.set_cons_succ]
          obtain ⟨ya8, hya8⟩ : ∃ V, w4.alloc (.cells (wS.v v) 44) = V := ⟨_, rfl⟩
          have z8 : Kept (ya8.heap.size = w4.heap.size + 1) := ⟨by rw [← hya8]; simp⟩
          rw [hya8] at a8
          have b_8 := below_up (Below.refl w4.heap.size w4) (Below.refl w4.heap.size w4).size a8
          have s8 := Shp.rd_on r4 a8
          have X8 : Rw 11 ya8 (some ⟨w4.heap.size, 0, none⟩) 1 (wS.cs v) := by rw [← hya8]; exact rw_new w4 11 44 1 (wS.v v) (by rw [wS.v_size]; rfl)
          rw [hya8]
          clear hya8
          refine nextS 0 (by kernel_rfl) (by rfl) (fun o ho K hK => ?_)
          simp only [List.getElem?_toArray, List.getElem?_cons_succ, List.getElem?_cons_zero, Option.some.injEq] at ho; subst ho
          go_simp
          have a9 := below_alloc_ ya8 (.cells #[] 44)
          refine hK.out _ _ (Shp.rd_on s8 a9) (fun _ => ?_)
          clear hK K
          try simp only [Act.put, List.setIfInBounds_toArray, List.set_cons_zero, List.set_cons_succ]
          obtain ⟨ya9, hya9⟩ : ∃ V, ya8.alloc (.cells #[] 44) = V := ⟨_, rfl⟩
          have z9 : Kept (ya9.heap.size = ya8.heap.size + 1) := ⟨by rw [← hya9]; simp⟩
          rw [hya9] at a9
          have b_9 := below_up b_8 b_8.size a9
          have s9 := Shp.rd_on s8 a9
          have X9 := X8.on a9
          have E9 : Ow 44 11 w4.heap.size ya9 (some ⟨ya8.heap.size, 0, none⟩) 0 0 [] := by rw [← hya9]; exact ⟨World.ownsRow_lit ya8 #[] 0 b_8.size (by simp [maxLen]) rfl, by have := b_8.size; first | (simp; done) | (simp; omega)⟩
          rw [hya9]
          clear hya9
          refine nextS 2 (by kernel_rfl) (by rfl) (fun o ho K hK => ?_)
          simp only [List.getElem?_toArray, List.getElem?_cons_succ, List.getElem?_cons_zero, Option.some.injEq] at ho; subst ho
          refine wp_gapp _ Try.underlying27 dver_info rfl (by decide) (by decide) (.tmp 32) (.tmp 33) rfl rfl E9 rfl (wrw (HR4.out.on b_9)) (wS.rcs_one l) (by omega) ?_
          intro Aa10 ca10 ya10 o10 hg10 hat10
          rw [List.nil_append] at o10
          rw [Nat.zero_add] at o10 ⊢
          have b_10 := b_9.grown hg10 b_9.size (fun q hq => (E9.lt q hq).1)
          have s10 : wS.rd ya10 ⟨w.heap.size, 0, none⟩ = some v := (Shp.rd_to (hg10.block _ (Shp.rd_lt s9) fun e => Nat.not_lt_of_le (E9.lt _ e.symm).1 rl4)).trans s9
          have X10 := rw_kept X9 hg10 (fun e => by have h : w4.heap.size = ya8.heap.size := Option.some.inj e; have := z8.out; have := z9.out; omega) (by have := z8.out; have := z9.out; omega)
          refine hK.out _ _ s10 (fun _ => ?_)
          clear hK K
          try simp only [Act.put, List.setIfInBounds_toArray, List.set_cons_zero, List.set_cons_succ]
          refine nextS 5 (by kernel_rfl) (by rfl) (fun o ho K hK => ?_)
          simp only [List.getElem?_toArray, List.getElem?_cons_succ, List.getElem?_cons_zero, Option.some.injEq] at ho; subst ho
          refine wp_gapp _ Try.underlying27 dver_info rfl (by decide) (by decide) (.tmp 34) (.tmp 36) rfl rfl o10 rfl X10 (wS.one v) (by omega) ?_
          intro Aa11 ca11 ya11 o11 hg11 hat11
          have b_11 := b_10.grown hg11 b_10.size (fun q hq => (o10.lt q hq).1)
          have s11 : wS.rd ya11 ⟨w.heap.size, 0, none⟩ = some v := (Shp.rd_to (hg11.block _ (Shp.rd_lt s10) fun e => Nat.not_lt_of_le (o10.lt _ e.symm).1 rl4)).trans s10
          refine hK.out _ _ s11 (fun _ => ?_)
          clear hK K
          try simp only [Act.put, List.setIfInBounds_toArray, List.set_cons_zero, List.set_cons_succ]
          refine takeS 6 (some 4) ?va76 (by kernel_rfl) (by kernel_rfl) (by kernel_rfl) (by kernel_rfl) (fun _ _ _ h => h) (by rfl) ?hya76 s11 ?resta76
          case hya76 => (intro o ho W hW; simp only [List.getElem?_toArray, List.getElem?_cons_succ, List.getElem?_cons_zero, Option.some.injEq] at ho; subst ho; (try dsimp only at hW); skip; go_simp; try rfl)
          try simp only [Act.put, List.setIfInBounds_toArray, List.set_cons_zero, List.set_cons_succ]
          refine takeS 7 (some 5) ?va87 (by kernel_rfl) (by kernel_rfl) (by kernel_rfl) (by kernel_rfl) (fun _ _ _ h => h) (by rfl) ?hya87 s11 ?resta87
          case hya87 => (intro o ho W hW; simp only [List.getElem?_toArray, List.getElem?_cons_succ, List.getElem?_cons_zero, Option.some.injEq] at ho; subst ho; (try dsimp only at hW); skip; go_simp; try rfl)
          try simp only [Act.put, List.setIfInBounds_toArray, List.set_cons_zero, List.set_cons_succ]
          refine wpAnyH_done (by kernel_rfl) ?_ _
          refine NoPanic.normal ?_
          go_wp2
          go_ret2
          refine ⟨Aa11, ca11, by rw [HP.out, D.pt_ok HP.out]; simp [hlen], ?_, (hZ.out.trans (b4.mono hZ.out.size)).trans (b_11.mono (Nat.le_trans hZ.out.size b4.size))⟩
          rw [D.pt_ok HP.out, List.length_append, hlen]
          exact DR.of (by rw [rcs_snoc]; exact o11)
    | false =>
      have hck : D.chk v.r = 0 := by have := h0; rw [D.wgh, if_neg (by simp [hd])] at this; exact this
      rw [hck] at CK
      rw [hd] at q2
      clear h0 hck
      go_enter Try.func11, Try.ntmps11
      go_wp2_with (go_at_call 27; (with_reducible refine (CK.out _).mono ?_); rintro e w2 ⟨rfl, b2⟩)
      have r2 := Shp.rd_on q0 b2
      have lt2 := Shp.rd_lt r2
      obtain ⟨c1, -, -⟩ := wf_ r2
      have CN2 : Hid (∀ o : On, Calls Try.prog 28 #[.slice A n c] (ext w2 o) fun e w' => e = .returned (.int .u64 (D.nwt l : Nat)) ∧ Below (ext w2 o).heap.size (ext w2 o) w') := fun o => (CN.out _ (below_up b2 b2.size (ext_below w2 o))).mono fun _ _ ⟨h1, h2⟩ => ⟨h1, by rw [h2]; exact Below.refl _ _⟩
      refine wp_region_ext (by kernel_rfl) (by kernel_rfl) ?_
      repeat (go_big_quiet_step ((go_at_call 28; with_reducible exact calls_ext (CN2.out _))))
      refine wpQuiet_nil ?_
      intro w3 hw3
      have b3 := ext_to hw3
      have r3 := Shp.rd_on r2 b3
      have hZ := Lib.hid (below_up (below_up b0 b0.size b2) (below_up b0 b0.size b2).size b3)
      have HR3 := Lib.hid ((HR.out.on b2).on b3)
      clear hw3 c1 lt2 CN2 r2 q0 q1 q2 q3
      by_cases h1 : v.a ≤ D.nwt l
      · have hper : D.per l v = 21 := by rw [D.per, if_neg (by simp [HG.out]), if_pos h1]
        have h1i : (v.a : Int) ≤ (D.nwt l : Int) := by omega
        have HP := Lib.hid hper
        clear h1 hper
        go_wp2
        go_ret2
        exact BAD.out 21 HP.out (by decide) _ hZ.out
      · have hper : D.per l v = 0 := by rw [D.per, if_neg (by simp [HG.out]), if_neg h1]
        have h1i : ¬ ((v.a : Int) ≤ (D.nwt l : Int)) := by omega
        have HP := Lib.hid hper
        clear h1 hper
        go_wp2_with fail
        obtain ⟨w4, hw4⟩ : ∃ w4, w3.drew = w4 := ⟨_, rfl⟩
        have b4 : Below w3.heap.size w3 w4 := by rw [← hw4]; exact (Below.refl _ _).drew
        have r4 := Shp.rd_on r3 b4
        have rl4 : w.heap.size < w4.heap.size := Shp.rd_lt r4
        have HR4 := Lib.hid ((HR3.out.on b4).row)
        refine wp_region_noPanic ?_
        refine wp_region_held_drew (S := fun W => wS.rd W ⟨w.heap.size, 0, none⟩ = some v) (by kernel_rfl) (by rw [hw4]; exact r4) (fun sd => ?_)
        rw [hw4]
        refine takeS 1 (some 33) ?vb11 (by kernel_rfl) (by kernel_rfl) (by kernel_rfl) (by kernel_rfl) (fun _ _ _ h => h) (by rfl) ?hyb11 r4 ?restb11
        case hyb11 => (intro o ho W hW; simp only [List.getElem?_toArray, List.getElem?_cons_succ, List.getElem?_cons_zero, Option.some.injEq] at ho; subst ho; (try dsimp only at hW); skip; go_simp; try rfl)
        try simp only [Act.put, List.setIfInBounds_toArray, List.set_cons_zero, List.set_cons_succ]
        refine takeS 3 (some 35) (.agg (wS.v v)) (by kernel_rfl) (by kernel_rfl) (by kernel_rfl) (by kernel_rfl) (fun _ _ _ h => h) (by rfl) ?hyb23 r4 ?restb23
        case hyb23 => (intro o ho W hW; simp only [List.getElem?_toArray, List.getElem?_cons_succ, List.getElem?_cons_zero, Option.some.injEq] at ho; subst ho; (try dsimp only at hW); skip; go_simp; try rfl)
        try simp only [Act.put, List.setIfInBounds_toArray, List.set_cons_zero, List.set_cons_succ]
        refine forkS 0 4 (by kernel_rfl) (by rfl) (by rfl) (fun o ho K hK => ?_) (fun o ho K hK => ?_)
        · simp only [List.getElem?_toArray, List.getElem?_cons_succ, List.getElem?_cons_zero, Option.some.injEq] at ho; subst ho
          go_simp
          have a1 := below_alloc_ w4 (.cells #[] 44)
          refine hK.out _ _ (Shp.rd_on r4 a1) (fun _ => ?_)
          clear hK K
          try simp only [Act.put, List.setIfInBounds_toArray, List.set_cons_zero, List.set_cons_succ]
          obtain ⟨yb1, hyb1⟩ : ∃ V, w4.alloc (.cells #[] 44) = V := ⟨_, rfl⟩
          have z1 : Kept (yb1.heap.size = w4.heap.size + 1) := ⟨by rw [← hyb1]; simp⟩
          rw [hyb1] at a1
          have b_1 := below_up (Below.refl w4.heap.size w4) (Below.refl w4.heap.size w4).size a1
          have s1 := Shp.rd_on r4 a1
          have E1 : Ow 44 11 w4.heap.size yb1 (some ⟨w4.heap.size, 0, none⟩) 0 0 [] := by rw [← hyb1]; exact ⟨World.ownsRow_lit w4 #[] 0 (Below.refl w4.heap.size w4).size (by simp [maxLen]) rfl, by have := (Below.refl w4.heap.size w4).size; first | (simp; done) | (simp; omega)⟩
          rw [hyb1]
          clear hyb1
          refine forkS 2 4 (by kernel_rfl) (by rfl) (by rfl) (fun o ho K hK => ?_) (fun o ho K hK => ?_)
          · simp only [List.getElem?_toArray, List.getElem?_cons_succ, List.getElem?_cons_zero, Option.some.injEq] at ho; subst ho
            refine wp_gapp _ Try.underlying27 dver_info rfl (by decide) (by decide) (.tmp 32) (.tmp 33) rfl rfl E1 rfl (wrw (HR4.out.on b_1)) (wS.rcs_one l) (by omega) ?_
            intro Ab2 cb2 yb2 o2 hg2 hat2
            rw [List.nil_append] at o2
            rw [Nat.zero_add] at o2 ⊢
            have b_2 := b_1.grown hg2 b_1.size (fun q hq => (E1.lt q hq).1)
            have s2 : wS.rd yb2 ⟨w.heap.size, 0, none⟩ = some v := (Shp.rd_to (hg2.block _ (Shp.rd_lt s1) fun e => Nat.not_lt_of_le (E1.lt _ e.symm).1 rl4)).trans s1
            refine hK.out _ _ s2 (fun _ => ?_)
            clear hK K
            try simp only [Act.put, List.setIfInBounds_toArray, List.set_cons_zero, List.set_cons_succ]
            refine nextS 4 (by kernel_rfl) (by rfl) (fun o ho K hK => ?_)
            simp only [List.getElem?_toArray, List.getElem?_cons_succ, List.getElem?_cons_zero, Option.some.injEq] at ho; subst ho
            go_simp
            have a3 := below_alloc_ yb2 (.cells (wS.v v) 44)
            refine hK.out _ _ (Shp.rd_on s2 a3) (fun _ => ?_)
            clear hK K
            try simp only [Act.put, List.setIfInBounds_toArray, List.set_cons_zero, List.set_cons_succ]
            obtain ⟨yb3, hyb3⟩ : ∃ V, yb2.alloc (.cells (wS.v v) 44) = V := ⟨_, rfl⟩
            have z3 : Kept (yb3.heap.size = yb2.heap.size + 1) := ⟨by rw [← hyb3]; simp⟩
            rw [hyb3] at a3
            have b_3 := below_up b_2 b_2.size a3
            have s3 := Shp.rd_on s2 a3
            have F3 := o2.on a3
            have X3 : Rw 11 yb3 (some ⟨yb2.heap.size, 0, none⟩) 1 (wS.cs v) := by rw [← hyb3]; exact rw_new yb2 11 44 1 (wS.v v) (by rw [wS.v_size]; rfl)
            rw [hyb3]
            clear hyb3
            refine nextS 5 (by kernel_rfl) (by rfl) (fun o ho K hK => ?_)
            simp only [List.getElem?_toArray, List.getElem?_cons_succ, List.getElem?_cons_zero, Option.some.injEq] at ho; subst ho
            refine wp_gapp _ Try.underlying27 dver_info rfl (by decide) (by decide) (.tmp 34) (.tmp 36) rfl rfl F3 rfl X3 (wS.one v) (by omega) ?_
            intro Ab4 cb4 yb4 o4 hg4 hat4
            have b_4 := b_3.grown hg4 b_3.size (fun q hq => (F3.lt q hq).1)
            have s4 : wS.rd yb4 ⟨w.heap.size, 0, none⟩ = some v := (Shp.rd_to (hg4.block _ (Shp.rd_lt s3) fun e => Nat.not_lt_of_le (F3.lt _ e.symm).1 rl4)).trans s3
            refine hK.out _ _ s4 (fun _ => ?_)
            clear hK K
            try simp only [Act.put, List.setIfInBounds_toArray, List.set_cons_zero, List.set_cons_succ]
            refine takeS 6 (some 4) ?vb36 (by kernel_rfl) (by kernel_rfl) (by kernel_rfl) (by kernel_rfl) (fun _ _ _ h => h) (by rfl) ?hyb36 s4 ?restb36
            case hyb36 => (intro o ho W hW; simp only [List.getElem?_toArray, List.getElem?_cons_succ, List.getElem?_cons_zero, Option.some.injEq] at ho; subst ho; (try dsimp only at hW); skip; go_simp; try rfl)
            try simp only [Act.put, List.setIfInBounds_toArray, List.set_cons_zero, List.set_cons_succ]
            refine takeS 7 (some 5) ?vb47 (by kernel_rfl) (by kernel_rfl) (by kernel_rfl) (by kernel_rfl) (fun _ _ _ h => h) (by rfl) ?hyb47 s4 ?restb47
            case hyb47 => (intro o ho W hW; simp only [List.getElem?_toArray, List.getElem?_cons_succ, List.getElem?_cons_zero, Option.some.injEq] at ho; subst ho; (try dsimp only at hW); skip; go_simp; try rfl)
            try simp only [Act.put, List.setIfInBounds_toArray, List.set_cons_zero, List.set_cons_succ]
            refine wpAnyH_done (by kernel_rfl) ?_ _
            refine NoPanic.normal ?_
            go_wp2
            go_ret2
            refine ⟨Ab4, cb4, by rw [HP.out, D.pt_ok HP.out]; simp [hlen], ?_, (hZ.out.trans (b4.mono hZ.out.size)).trans (b_4.mono (Nat.le_trans hZ.out.size b4.size))⟩
            rw [D.pt_ok HP.out, List.length_append, hlen]
            exact DR.of (by rw [rcs_snoc]; exact o4)
          · simp only [List.getElem?_toArray, List.getElem?_cons_succ, List.getElem?_cons_zero, Option.some.injEq] at ho; subst ho
            go_simp
            have a5 := below_alloc_ yb1 (.cells (wS.v v) 44)
            refine hK.out _ _ (Shp.rd_on s1 a5) (fun _ => ?_)
            clear hK K
            try simp only [Act.put, List.setIfInBounds_toArray, List.set_cons_zero, List.set_cons_succ]
            obtain ⟨yb5, hyb5⟩ : ∃ V, yb1.alloc (.cells (wS.v v) 44) = V := ⟨_, rfl⟩
            have z5 : Kept (yb5.heap.size = yb1.heap.size + 1) := ⟨by rw [← hyb5]; simp⟩
            rw [hyb5] at a5
            have b_5 := below_up b_1 b_1.size a5
            have s5 := Shp.rd_on s1 a5
            have E5 := E1.on a5
            have X5 : Rw 11 yb5 (some ⟨yb1.heap.size, 0, none⟩) 1 (wS.cs v) := by rw [← hyb5]; exact rw_new yb1 11 44 1 (wS.v v) (by rw [wS.v_size]; rfl)
            rw [hyb5]
            clear hyb5
            refine nextS 2 (by kernel_rfl) (by rfl) (fun o ho K hK => ?_)
            simp only [List.getElem?_toArray, List.getElem?_cons_succ, List.getElem?_cons_zero, Option.some.injEq] at ho; subst ho
            refine wp_gapp _ Try.underlying27 dver_info rfl (by decide) (by decide) (.tmp 32) (.tmp 33) rfl rfl E5 rfl (wrw (HR4.out.on b_5)) (wS.rcs_one l) (by omega) ?_
            intro Ab6 cb6 yb6 o6 hg6 hat6
            rw [List.nil_append] at o6
            rw [Nat.zero_add] at o6 ⊢
            have b_6 := b_5.grown hg6 b_5.size (fun q hq => (E5.lt q hq).1)
            have s6 : wS.rd yb6 ⟨w.heap.size, 0, none⟩ = some v := (Shp.rd_to (hg6.block _ (Shp.rd_lt s5) fun e => Nat.not_lt_of_le (E5.lt _ e.symm).1 rl4)).trans s5
            have X6 := rw_kept X5 hg6 (fun e => by have h : yb1.heap.size = w4.heap.size := Option.some.inj e; have := z1.out; have := z5.out; omega) (by have := z1.out; have := z5.out; omega)
            refine hK.out _ _ s6 (fun _ => ?_)
            clear hK K
            try simp only [Act.put, List.setIfInBounds_toArray, List.set_cons_zero, List.set_cons_succ]
            refine nextS 5 (by kernel_rfl) (by rfl) (fun o ho K hK => ?_)
            simp only [List.getElem?_toArray, List.getElem?_cons_succ, List.getElem?_cons_zero, Option.some.injEq] at ho; subst ho
            refine wp_gapp _ Try.underlying27 dver_info rfl (by decide) (by decide) (.tmp 34) (.tmp 36) rfl rfl o6 rfl X6 (wS.one v) (by omega) ?_
            intro Ab7 cb7 yb7 o7 hg7 hat7
            have b_7 := b_6.grown hg7 b_6.size (fun q hq => (o6.lt q hq).1)
            have s7 : wS.rd yb7 ⟨w.heap.size, 0, none⟩ = some v := (Shp.rd_to (hg7.block _ (Shp.rd_lt s6) fun e => Nat.not_lt_of_le (o6.lt _ e.symm).1 rl4)).trans s6
            refine hK.out _ _ s7 (fun _ => ?_)
            clear hK K
            try simp only [Act.put, List.setIfInBounds_toArray, List.set_cons_zero, List.set_cons_succ]
            refine takeS 6 (some 4) ?vb56 (by kernel_rfl) (by kernel_rfl) (by kernel_rfl) (by kernel_rfl) (fun _ _ _ h => h) (by rfl) ?hyb56 s7 ?restb56
            case hyb56 => (intro o ho W hW; simp only [List.getElem?_toArray, List.getElem?_cons_succ, List.getElem?_cons_zero, Option.some.injEq] at ho; subst ho; (try dsimp only at hW); skip; go_simp; try rfl)
            try simp only [Act.put, List.setIfInBounds_toArray, List.set_cons_zero, List.set_cons_succ]
            refine takeS 7 (some 5) ?vb67 (by kernel_rfl) (by kernel_rfl) (by kernel_rfl) (by kernel_rfl) (fun _ _ _ h => h) (by rfl) ?hyb67 s7 ?restb67
            case hyb67 => (intro o ho W hW; simp only [List.getElem?_toArray, List.getElem?_cons_succ, List.getElem?_cons_zero, Option.some.injEq] at ho; subst ho; (try dsimp only at hW); skip; go_simp; try rfl)
            try simp only [Act.put, List.setIfInBounds_toArray, List.set_cons_zero, List.set_cons_succ]
            refine wpAnyH_done (by kernel_rfl) ?_ _
            refine NoPanic.normal ?_
            go_wp2
            go_ret2
            refine ⟨Ab7, cb7, by rw [HP.out, D.pt_ok HP.out]; simp [hlen], ?_, (hZ.out.trans (b4.mono hZ.out.size)).trans (b_7.mono (Nat.le_trans hZ.out.size b4.size))⟩
            rw [D.pt_ok HP.out, List.length_append, hlen]
            exact DR.of (by rw [rcs_snoc]; exact o7)
        · simp only [List.getElem?_toArray, List.getElem?_cons_succ, List.getElem?_cons_zero, Option.some.injEq] at ho; subst ho
          go_simp
          have a8 := below_alloc_ w4 (.cells (wS.v v) 44)
          refine hK.out _ _ (Shp.rd_on r4 a8) (fun _ => ?_)
          clear hK K
          try simp only [Act.put, List.setIfInBounds_toArray, List.set_cons_zero, List.set_cons_succ]
          obtain ⟨yb8, hyb8⟩ : ∃ V, w4.alloc (.cells (wS.v v) 44) = V := ⟨_, rfl⟩
          have z8 : Kept (yb8.heap.size = w4.heap.size + 1) := ⟨by rw [← hyb8]; simp⟩
          rw [hyb8] at a8
          have b_8 := below_up (Below.refl w4.heap.size w4) (Below.refl w4.heap.size w4).size a8
          have s8 := Shp.rd_on r4 a8
          have X8 : Rw 11 yb8 (some ⟨w4.heap.size, 0, none⟩) 1 (wS.cs v) := by rw [← hyb8]; exact rw_new w4 11 44 1 (wS.v v) (by rw [wS.v_size]; rfl)
          rw [hyb8]
          clear hyb8
          refine nextS 0 (by kernel_rfl) (by rfl) (fun o ho K hK => ?_)
          simp only [List.getElem?_toArray, List.getElem?_cons_succ, List.getElem?_cons_zero, Option.some.injEq] at ho; subst ho
          go_simp
          have a9 := below_alloc_ yb8 (.cells #[] 44)
          refine hK.out _ _ (Shp.rd_on s8 a9) (fun _ => ?_)
          clear hK K
          try simp only [Act.put, List.setIfInBounds_toArray, List.set_cons_zero, List.set_cons_succ]
          obtain ⟨yb9, hyb9⟩ : ∃ V, yb8.alloc (.cells #[] 44) = V := ⟨_, rfl⟩
          have z9 : Kept (yb9.heap.size = yb8.heap.size + 1) := ⟨by rw [← hyb9]; simp⟩
          rw [hyb9] at a9
          have b_9 := below_up b_8 b_8.size a9
          have s9 := Shp.rd_on s8 a9
          have X9 := X8.on a9
          have E9 : Ow 44 11 w4.heap.size yb9 (some ⟨yb8.heap.size, 0, none⟩) 0 0 [] := by rw [← hyb9]; exact ⟨World.ownsRow_lit yb8 #[] 0 b_8.size (by simp [maxLen]) rfl, by have := b_8.size; first | (simp; done) | (simp; omega)⟩
          rw [hyb9]
          clear hyb9
          refine nextS 2 (by kernel_rfl) (by rfl) (fun o ho K hK => ?_)
          simp only [List.getElem?_toArray, List.getElem?_cons_succ, List.getElem?_cons_zero, Option.some.injEq] at ho; subst ho
          refine wp_gapp _ Try.underlying27 dver_info rfl (by decide) (by decide) (.tmp 32) (.tmp 33) rfl rfl E9 rfl (wrw (HR4.out.on b_9)) (wS.rcs_one l) (by omega) ?_
          intro Ab10 cb10 yb10 o10 hg10 hat10
          rw [List.nil_append] at o10
          rw [Nat.zero_add] at o10 ⊢
          have b_10 := b_9.grown hg10 b_9.size (fun q hq => (E9.lt q hq).1)
          have s10 : wS.rd yb10 ⟨w.heap.size, 0, none⟩ = some v := (Shp.rd_to (hg10.block _ (Shp.rd_lt s9) fun e => Nat.not_lt_of_le (E9.lt _ e.symm).1 rl4)).trans s9
          have X10 := rw_kept X9 hg10 (fun e => by have h : w4.heap.size = yb8.heap.size := Option.some.inj e; have := z8.out; have := z9.out; omega) (by have := z8.out; have := z9.out; omega)
          refine hK.out _ _ s10 (fun _ => ?_)
          clear hK K
          try simp only [Act.put, List.setIfInBounds_toArray, List.set_cons_zero, List.set_cons_succ]
          refine nextS 5 (by kernel_rfl) (by rfl) (fun o ho K hK => ?_)
          simp only [List.getElem?_toArray, List.getElem?_cons_succ, List.getElem?_cons_zero, Option.some.injEq] at ho; subst ho
          refine wp_gapp _ Try.underlying27 dver_info rfl (by decide) (by decide) (.tmp 34) (.tmp 36) rfl rfl o10 rfl X10 (wS.one v) (by omega) ?_
          intro Ab11 cb11 yb11 o11 hg11 hat11
          have b_11 := b_10.grown hg11 b_10.size (fun q hq => (o10.lt q hq).1)
          have s11 : wS.rd yb11 ⟨w.heap.size, 0, none⟩ = some v := (Shp.rd_to (hg11.block _ (Shp.rd_lt s10) fun e => Nat.not_lt_of_le (o10.lt _ e.symm).1 rl4)).trans s10
          refine hK.out _ _ s11 (fun _ => ?_)
          clear hK K
          try simp only [Act.put, List.setIfInBounds_toArray, List.set_cons_zero, List.set_cons_succ]
          refine takeS 6 (some 4) ?vb76 (by kernel_rfl) (by kernel_rfl) (by kernel_rfl) (by kernel_rfl) (fun _ _ _ h => h) (by rfl) ?hyb76 s11 ?restb76
          case hyb76 => (intro o ho W hW; simp only [List.getElem?_toArray, List.getElem?_cons_succ, List.getElem?_cons_zero, Option.some.injEq] at ho; subst ho; (try dsimp only at hW); skip; go_simp; try rfl)
          try simp only [Act.put, List.setIfInBounds_toArray, List.set_cons_zero, List.set_cons_succ]
          refine takeS 7 (some 5) ?vb87 (by kernel_rfl) (by kernel_rfl) (by kernel_rfl) (by kernel_rfl) (fun _ _ _ h => h) (by rfl) ?hyb87 s11 ?restb87
          case hyb87 => (intro o ho W hW; simp only [List.getElem?_toArray, List.getElem?_cons_succ, List.getElem?_cons_zero, Option.some.injEq] at ho; subst ho; (try dsimp only at hW); skip; go_simp; try rfl)
          try simp only [Act.put, List.setIfInBounds_toArray, List.set_cons_zero, List.set_cons_succ]
          refine wpAnyH_done (by kernel_rfl) ?_ _
          refine NoPanic.normal ?_
          go_wp2
          go_ret2
          refine ⟨Ab11, cb11, by rw [HP.out, D.pt_ok HP.out]; simp [hlen], ?_, (hZ.out.trans (b4.mono hZ.out.size)).trans (b_11.mono (Nat.le_trans hZ.out.size b4.size))⟩
          rw [D.pt_ok HP.out, List.length_append, hlen]
          exact DR.of (by rw [rcs_snoc]; exact o11)
  · have HP : Hid (D.per l v = D.wgh v) := by show D.per l v = D.wgh v; rw [D.per, if_pos h0]
    cases hd : v.d with
    | true =>
      have h3 : D.wgh v = 3 := by
        unfold D.wgh at h0 ⊢
        rw [if_pos hd] at h0 ⊢
        split at h0
        · exact absurd rfl h0
        · rename_i hh; rw [if_neg hh]
      have hne : decide (v.r = D.zRc) = false := decide_eq_false fun hh => h0 (by unfold D.wgh; rw [if_pos hd, if_pos hh])
      rw [h3] at HP
      rw [hd] at q2
      clear h0 h3
      go_enter Try.func11, Try.ntmps11
      go_wp2
      go_ret2
      exact BAD.out 3 HP.out (by decide) _ b0
    | false =>
      have h3 : D.wgh v = D.chk v.r := by rw [D.wgh, if_neg (by simp [hd])]
      rw [h3] at HP h0
      rw [hd] at q2
      have h0i : ¬ ((D.chk v.r : Int) = 0) := by omega
      have H0 := Lib.hid h0
      clear h0 h3
      go_enter Try.func11, Try.ntmps11
      go_wp2_with (go_at_call 27; (with_reducible refine (CK.out _).mono ?_); rintro e w2 ⟨rfl, b2⟩)
      go_ret2
      exact BAD.out _ HP.out H0.out _ (below_up b0 b0.size b2)
end Go.Proofs.Ytcnbdfobhablbaa
