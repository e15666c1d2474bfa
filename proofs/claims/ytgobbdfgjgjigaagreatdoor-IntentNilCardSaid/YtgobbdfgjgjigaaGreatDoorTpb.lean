/-
  The program's Parse, walked.
-/
import Derived.Test.YtgobbdfgjgjigaaGreatDoorRefa
import Derived.Test.YtgobbdfgjgjigaaGreatDoorTpa
import Derived.Deep.CutRange
import Derived.Deep.Light
import Derived.Sort.Grow
import Derived.Test.YtgobbdfgjgjigaaGreatDoorACut
set_option linter.unusedVariables false
set_option linter.unusedSimpArgs false
namespace Go.Proofs.YtgobbdfgjgjigaaGreatDoor
open Go.RowKit
attribute [local go_sem ↓] Go.wp_at_zero Go.wp_at_succ ld_a ld_n st_a st_n eq_a eq_n ne_a ne_n lv_a lv_n lp_3 lp_4
attribute [local go_sem] run_ld_a run_ld_n run_sw_a run_sw_n run_eq_a run_eq_n run_ne_a run_ne_n run_lv_a run_lv_n st_z ne_z rd_new rd_old rd_drew rd_drewN rd_set tn_new tn_old tn_drew tn_drewN setRow_alloc run_lp_3 run_lp_4

theorem ascii_ch {s : ByteArray} (h : ∀ c ∈ D.ns s, D.Ch c) : ∀ b ∈ D.ns s, b < 128 := fun b hb => by have := h b hb; unfold D.Ch at this; omega
theorem upper_one (x : ByteArray) (hx : x.size ≤ 100) (h : ∀ c ∈ D.ns x, D.Ch c) (w : World) : Calls Tryz.prog 113 #[.string (x.extract 0 1)] w fun e w' => e = .returned (.string (D.sb (D.up ((D.ns x).take 1)))) ∧ Below w.heap.size w w' := by
  have := upper_any (x.extract 0 1) w (by rw [← D.ns_len, ns_take]; simp; omega) (by rw [ns_take]; exact fun b hb => ascii_ch h b (List.mem_of_mem_take hb))
  rwa [ns_take] at this
theorem lower_rest (x : ByteArray) (hx : x.size ≤ 100) (h : ∀ c ∈ D.ns x, D.Ch c) (w : World) : Calls Tryz.prog 111 #[.string (x.extract 1 x.size)] w fun e w' => e = .returned (.string (D.sb (D.low (D.ns x).tail))) ∧ Below w.heap.size w w' := by
  have := lower_any (x.extract 1 x.size) w (by rw [← D.ns_len, ns_drop]; simp [D.ns_len]; omega) (by rw [ns_drop]; exact fun b hb => ascii_ch h b (List.mem_of_mem_drop hb))
  rwa [ns_drop, List.drop_one] at this
theorem cap_cat (l : List Nat) : D.sb (D.up (l.take 1)) ++ D.sb (D.low l.tail) = D.sb (D.cap l) := by rw [← sb_app, ← List.drop_one]; rfl
theorem cap_sum (x : ByteArray) (hx : x.size ≤ 100) : ¬ 9223372036854775807 < (D.sb (D.up ((D.ns x).take 1))).size + (D.sb (D.low (D.ns x).tail)).size := by rw [D.sb_len, D.sb_len, D.up_len, D.low_len]; simp [D.ns_len]; omega
theorem cell_row_ {w : World} {a : Addr} {v : Value} {g : Nat} {cs : Array Value} (h : w.cell? a = some v) (hg : a.block ≠ g) : (w.setRow g cs).cell? a = some v := (World.cell?_of_block (heap_setRow w g _ cs hg)).trans h
set_option maxRecDepth 100000 in
set_option maxHeartbeats 8000000 in
theorem tag_parse (s : ByteArray) (w : World) (hs : s.size ≤ 100) :
    Calls Tryz.prog 97 #[.string s] w fun e w' => e = .returned (.tuple #[.agg (nc (D.tb ((D.parse (D.ns s)).getD D.rt))), .int .i64 (er (D.parse (D.ns s)))]) ∧ Below w.heap.size w w' := by
  have hrt := root_test s
  by_cases hroot : D.ns s = D.rootT
  · have hp : D.parse (D.ns s) = some D.rt := by unfold D.parse; rw [if_pos hroot]
    rw [decide_eq_true hroot] at hrt
    have HP := Lib.hid hp
    have hset := rd_new w _ 28 D.zero rfl
    have b9 := below_alloc_ w (.cells (nc D.zero) 28)
    clear hp hroot
    go_enter Tryz.func97, Tryz.ntmps97
    go_wp2
    refine bodyPost_ret (v := .tuple #[.agg (nc D.zero), .int .i64 0]) (by rw [results_cell_tmp rfl]; simp [asAddr, Result.andThen, lv_of_n hset]) rfl ⟨?_, b9⟩
    rw [HP.out]; rfl
  · rw [decide_eq_false hroot] at hrt
    have cS := Lib.hid (fun w => split_tag s w hs hroot)
    go_enter Tryz.func97, Tryz.ntmps97
    go_wp2_with fail
    (with_reducible refine (cS.out _).mono ?_)
    rintro e w1 ⟨x0, q, N, rfl, hqN, hq3, b1, hrow, HP, hx0, hqs⟩
    have P0 : Ps w w1 (some ⟨w.heap.size + 1 + 1, 0, none⟩) (q.length + 1) (x0 :: q) D.rt := by
      have h1 := (Blk.new w 28 z10).alloc (.cells z10 28)
      have h2 := Blk.new (w.alloc (.cells z10 28)) 28 z10
      rw [World.size_alloc] at h2
      exact ⟨tn_on (tn_of h1 rfl) b1, h2.on b1, by simpa [World.size_alloc] using hrow, fun ad e => by injection e with e; subst e; simp, (((Below.refl _ _).alloc (Nat.le_refl _) _).alloc (by simp) _).trans (b1.mono (by simp; omega))⟩
    obtain ⟨m, hm⟩ : ∃ m, q.length = m := ⟨_, rfl⟩
    rw [hm] at P0 hqN hq3 ⊢
    clear hrow b1 cS hrt hroot
    have hz := P0.bel.size
    obtain ⟨ad0, e0, c0⟩ := P0.head
    injection e0 with e0
    subst e0
    have cI := Lib.hid (fun w => isLang_any x0 w hx0)
    cases hL : D.isL (D.ns x0) with
    | false =>
      have hpf : D.parse (D.ns s) = none := by rw [HP.out, hL]; rfl
      have HPF := Lib.hid hpf
      rw [hL] at cI
      have hset := rd_set w1 w.heap.size D.zero P0.tR
      have hT := P0.tR
      have b9 := below_setRow P0.bel (Nat.le_refl _) (nc D.zero)
      clear hpf HP hqs P0 hL
      go_wp2_with (go_at_call 110; (with_reducible refine (cI.out _).mono ?_); rintro e wk ⟨rfl, rfl⟩)
      refine bodyPost_ret (v := .tuple #[.agg (nc D.zero), .int .i64 14]) (by rw [results_cell_tmp rfl]; simp [asAddr, Result.andThen, lv_of_n hset]) rfl ⟨?_, b9⟩
      rw [HPF.out]; rfl
    | true =>
      rw [hL] at cI
      have hch := D.ch_L (D.isL_iff.1 hL).2
      have hln : (D.low (D.ns x0)).length ≤ 3 := by rw [D.low_len]; have := (D.isL_iff.1 hL).1; omega
      have hlc : ∀ c ∈ D.low (D.ns x0), D.Ch c := D.okL_ch (D.ok_low hL)
      have cLo := Lib.hid (fun w => lower_any x0 w hx0 (ascii_ch hch))
      have HP' : Kept (D.parse (D.ns s) = D.tail3 (D.low (D.ns x0)) (q.map D.ns)) := ⟨by rw [HP.out, hL]; rfl⟩
      clear HP hch hL
      go_wp2_with (go_at_call 110; (with_reducible refine (cI.out _).mono ?_); rintro e wk ⟨rfl, rfl⟩)
      refine wp_region_noPanic ?_
      refine wp_region_held_drew (S := fun W => W.cell? ⟨w.heap.size + 1 + 1, 0, none⟩ = some (.string x0)) (by kernel_rfl) c0 (fun _ => ?_)
      refine takeS 0 (some 17) ?va0 (by kernel_rfl) (by kernel_rfl) (by kernel_rfl) (by kernel_rfl) (fun _ _ _ h => h) (by rfl) ?hya0 c0 ?resta0
      case hya0 => (intro o ho W hW; simp only [List.getElem?_toArray, List.getElem?_cons_succ, List.getElem?_cons_zero, Option.some.injEq] at ho; subst ho; (try dsimp only at hW); skip; go_simp; try rfl)
      try simp only [Act.put, List.setIfInBounds_toArray, List.set_cons_zero, List.set_cons_succ]
      refine takeS 1 (some 18) ?va1 (by kernel_rfl) (by kernel_rfl) (by kernel_rfl) (by kernel_rfl) (fun _ _ _ h => h) (by rfl) ?hya1 c0 ?resta1
      case hya1 => (intro o ho W hW; simp only [List.getElem?_toArray, List.getElem?_cons_succ, List.getElem?_cons_zero, Option.some.injEq] at ho; subst ho; (try dsimp only at hW); skip; go_simp; try rfl)
      try simp only [Act.put, List.setIfInBounds_toArray, List.set_cons_zero, List.set_cons_succ]
      refine takeS 2 (some 19) ?va2 (by kernel_rfl) (by kernel_rfl) (by kernel_rfl) (by kernel_rfl) (fun _ _ _ h => h) (by rfl) ?hya2 c0 ?resta2
      case hya2 => (intro o ho W hW; simp only [List.getElem?_toArray, List.getElem?_cons_succ, List.getElem?_cons_zero, Option.some.injEq] at ho; subst ho; (try dsimp only at hW); skip; go_simp; try rfl)
      try simp only [Act.put, List.setIfInBounds_toArray, List.set_cons_zero, List.set_cons_succ]
      refine takeS 3 (some 20) ?va3 (by kernel_rfl) (by kernel_rfl) (by kernel_rfl) (by kernel_rfl) (fun _ _ _ h => h) (by rfl) ?hya3 c0 ?resta3
      case hya3 => (intro o ho W hW; simp only [List.getElem?_toArray, List.getElem?_cons_succ, List.getElem?_cons_zero, Option.some.injEq] at ho; subst ho; (try dsimp only at hW); skip; go_simp; try rfl)
      try simp only [Act.put, List.setIfInBounds_toArray, List.set_cons_zero, List.set_cons_succ]
      refine takeS 4 (some 21) ?va4 (by kernel_rfl) (by kernel_rfl) (by kernel_rfl) (by kernel_rfl) (fun _ _ _ h => h) (by rfl) ?hya4 c0 ?resta4
      case hya4 => (intro o ho W hW; simp only [List.getElem?_toArray, List.getElem?_cons_succ, List.getElem?_cons_zero, Option.some.injEq] at ho; subst ho; (try dsimp only at hW); skip; go_simp; try rfl)
      try simp only [Act.put, List.setIfInBounds_toArray, List.set_cons_zero, List.set_cons_succ]
      refine nextS 5 (by kernel_rfl) (by rfl) (fun o ho K hK => ?_)
      simp only [List.getElem?_toArray, List.getElem?_cons_succ, List.getElem?_cons_zero, Option.some.injEq] at ho; subst ho
      go_simp
      (go_at_call 111; (with_reducible refine (cLo.out _).mono ?_); rintro e w2 ⟨rfl, b2⟩)
      have c2 := cell_keep b2 (show w1.drew.cell? _ = _ from c0)
      have P2 := (P0.on (Below.refl _ _).drew).on b2
      refine hK.out _ _ c2 (fun _ => ?_)
      clear hK K
      try simp only [Act.put, List.setIfInBounds_toArray, List.set_cons_zero, List.set_cons_succ]
      refine nextS 6 (by kernel_rfl) (by rfl) (fun o ho K hK => ?_)
      simp only [List.getElem?_toArray, List.getElem?_cons_succ, List.getElem?_cons_zero, Option.some.injEq] at ho; subst ho
      refine wp_copy_str _ (.tmp 18) (.tmp 22) (by rfl) (by rfl) (by rfl) (D.ch_lt hlc) P2.bT hln (by rw [nc_size]; omega) ?_
      have P3 := P2.set (put_lang hln hlc)
      have c3 := cell_row_ (g := w.heap.size + 1) (cs := ((nc (D.tb D.rt)).toList.take 0 ++ bys (D.low (D.ns x0)) ++ (nc (D.tb D.rt)).toList.drop (0 + (D.low (D.ns x0)).length)).toArray) c2 (by simp)
      refine hK.out _ _ c3 (fun _ => ?_)
      clear hK K
      try simp only [Act.put, List.setIfInBounds_toArray, List.set_cons_zero, List.set_cons_succ]
      refine wpAnyH_done (by kernel_rfl) ?_ _
      refine NoPanic.normal ?_
      have P3' : Ps w (w2.setRow (w.heap.size + 1) ((nc (D.tb D.rt)).toList.take 0 ++ bys (D.low (D.ns x0)) ++ (nc (D.tb D.rt)).toList.drop (0 + (D.low (D.ns x0)).length)).toArray) (some ⟨w.heap.size + 1 + 1, 0, none⟩) (m + 1) (x0 :: q) ⟨D.low (D.ns x0), [], []⟩ := P3
      obtain ⟨w3, hw3⟩ : ∃ w3, w2.setRow (w.heap.size + 1) ((nc (D.tb D.rt)).toList.take 0 ++ bys (D.low (D.ns x0)) ++ (nc (D.tb D.rt)).toList.drop (0 + (D.low (D.ns x0)).length)).toArray = w3 := ⟨_, rfl⟩
      rw [hw3] at P3'
      try rw [hw3]
      clear P3 hw3 c2 c3 P2 b2 cLo cI c0 P0
      obtain ⟨A1, hr1, hr2, hf⟩ := from1_s (some ⟨w.heap.size + 1 + 1, 0, none⟩) m N hqN
      have P4 := P3'.low_ (hr2 _ _ _ P3'.row) (hf _ P3'.far)
      clear hr2 hf P3'
      go_upto_region 9 with fail
      clear hr1 hz
      obtain ⟨l0, hl0⟩ : ∃ l0, D.low (D.ns x0) = l0 := ⟨_, rfl⟩
      rw [hl0] at P4 hln hlc HP'
      clear hl0
      cases q with
      | nil =>
        have j1 : ¬ (0 : Int) < (m : Int) := by simp at hm; omega
        have j2 : (m : Int) ≤ 0 := by omega
        have HMM := Lib.hid hm
        clear hm hqN hq3 hqs
        have hpf : D.parse (D.ns s) = some ⟨l0, [], []⟩ := by rw [HP'.out]; rfl
        obtain ⟨y9, hy⟩ : ∃ y, D.tb ⟨l0, [], []⟩ = y := ⟨_, rfl⟩
        have HPF := Lib.hid hpf
        have HY := Lib.hid hy
        have hb9 := P4.bT
        rw [hy] at hb9
        have hx9 := rd_blk hb9
        have hT := P4.tR
        have hset := rd_set w3 w.heap.size y9 hT
        have b9 := below_setRow P4.bel (Nat.le_refl _) (nc y9)
        clear hpf hy hb9 P4 HP' hln hlc
        go_wp2
        refine bodyPost_ret (v := .tuple #[.agg (nc y9), .int .i64 0]) (by rw [results_cell_tmp rfl]; simp [asAddr, Result.andThen, lv_of_n hset]) rfl ⟨?_, b9⟩
        rw [HPF.out, ← HY.out]; rfl
      | cons x1 q1 =>
        have j1 : (0 : Int) < (m : Int) := by simp at hm; omega
        have cSc := Lib.hid (fun w => isScript_any x1 w (hqs x1 (by simp)))
        cases hS : D.isS (D.ns x1) with
        | false =>
          rw [hS] at cSc
          have hscB : ([] : List Nat).length ≤ 4 ∧ ∀ c ∈ ([] : List Nat), D.Ch c := ⟨by simp, fun c h => by cases h⟩
          have HMM := Lib.hid hm
          clear hm
          obtain ⟨adB, rfl, cB⟩ := P4.head
          have cRB := Lib.hid (fun w => isRegion_any x1 w (hqs x1 (by simp)))
          cases hRB : D.isR (D.ns x1) with
          | false =>
            rw [hRB] at cRB
            have hpf : D.parse (D.ns s) = none := by rw [HP'.out]; cases q1 with | nil => simp [D.tail3, hS, hRB] | cons a b => cases b <;> simp [D.tail3, hS]
            have HPF := Lib.hid hpf
            have hT := P4.tR
            have hset := rd_set w3 w.heap.size D.zero hT
            have b9 := below_setRow P4.bel (Nat.le_refl _) (nc D.zero)
            clear hpf P4 HP' hln hlc
            clear hqs hRB
            go_wp2_with (first | (go_at_call 114; (with_reducible refine (cRB.out _).mono ?_); rintro e wk ⟨rfl, rfl⟩) | (go_at_call 112; (with_reducible refine (cSc.out _).mono ?_); rintro e wk ⟨rfl, rfl⟩))
            refine bodyPost_ret (v := .tuple #[.agg (nc D.zero), .int .i64 14]) (by rw [results_cell_tmp rfl]; simp [asAddr, Result.andThen, lv_of_n hset]) rfl ⟨?_, b9⟩
            rw [HPF.out]; rfl
          | true =>
            rw [hRB] at cRB
            have hyc := D.ch_R hRB
            have hyn : (D.up (D.ns x1)).length ≤ 3 := by rw [D.up_len]; rcases D.isR_iff.1 hRB with ⟨h, _⟩ | ⟨h, _⟩ <;> omega
            have hyu : ∀ c ∈ D.up (D.ns x1), D.Ch c := D.okR_ch (D.ok_up hRB)
            have cUB := Lib.hid (fun w => upper_any x1 w (hqs x1 (by simp)) (ascii_ch hyc))
            clear hyc
            have hsn : ([]).length ≤ 4 ∧ ∀ c ∈ [], D.Ch c := hscB
            go_wp2_with (first | (go_at_call 114; (with_reducible refine (cRB.out _).mono ?_); rintro e wk ⟨rfl, rfl⟩) | (go_at_call 112; (with_reducible refine (cSc.out _).mono ?_); rintro e wk ⟨rfl, rfl⟩))
            refine wp_region_noPanic ?_
            refine wp_region_held_drew (S := fun W => W.cell? adB = some (.string x1)) (by kernel_rfl) cB (fun _ => ?_)
            refine takeS 0 (some 60) ?vrB0 (by kernel_rfl) (by kernel_rfl) (by kernel_rfl) (by kernel_rfl) (fun _ _ _ h => h) (by rfl) ?hyrB0 cB ?restrB0
            case hyrB0 => (intro o ho W hW; simp only [List.getElem?_toArray, List.getElem?_cons_succ, List.getElem?_cons_zero, Option.some.injEq] at ho; subst ho; (try dsimp only at hW); skip; go_simp; try rfl)
            try simp only [Act.put, List.setIfInBounds_toArray, List.set_cons_zero, List.set_cons_succ]
            refine takeS 1 (some 61) ?vrB1 (by kernel_rfl) (by kernel_rfl) (by kernel_rfl) (by kernel_rfl) (fun _ _ _ h => h) (by rfl) ?hyrB1 cB ?restrB1
            case hyrB1 => (intro o ho W hW; simp only [List.getElem?_toArray, List.getElem?_cons_succ, List.getElem?_cons_zero, Option.some.injEq] at ho; subst ho; (try dsimp only at hW); skip; go_simp; try rfl)
            try simp only [Act.put, List.setIfInBounds_toArray, List.set_cons_zero, List.set_cons_succ]
            refine takeS 2 (some 62) ?vrB2 (by kernel_rfl) (by kernel_rfl) (by kernel_rfl) (by kernel_rfl) (fun _ _ _ h => h) (by rfl) ?hyrB2 cB ?restrB2
            case hyrB2 => (intro o ho W hW; simp only [List.getElem?_toArray, List.getElem?_cons_succ, List.getElem?_cons_zero, Option.some.injEq] at ho; subst ho; (try dsimp only at hW); skip; go_simp; try rfl)
            try simp only [Act.put, List.setIfInBounds_toArray, List.set_cons_zero, List.set_cons_succ]
            refine takeS 3 (some 63) ?vrB3 (by kernel_rfl) (by kernel_rfl) (by kernel_rfl) (by kernel_rfl) (fun _ _ _ h => h) (by rfl) ?hyrB3 cB ?restrB3
            case hyrB3 => (intro o ho W hW; simp only [List.getElem?_toArray, List.getElem?_cons_succ, List.getElem?_cons_zero, Option.some.injEq] at ho; subst ho; (try dsimp only at hW); skip; go_simp; try rfl)
            try simp only [Act.put, List.setIfInBounds_toArray, List.set_cons_zero, List.set_cons_succ]
            refine takeS 4 (some 64) ?vrB4 (by kernel_rfl) (by kernel_rfl) (by kernel_rfl) (by kernel_rfl) (fun _ _ _ h => h) (by rfl) ?hyrB4 cB ?restrB4
            case hyrB4 => (intro o ho W hW; simp only [List.getElem?_toArray, List.getElem?_cons_succ, List.getElem?_cons_zero, Option.some.injEq] at ho; subst ho; (try dsimp only at hW); skip; go_simp; try rfl)
            try simp only [Act.put, List.setIfInBounds_toArray, List.set_cons_zero, List.set_cons_succ]
            refine nextS 5 (by kernel_rfl) (by rfl) (fun o ho K hK => ?_)
            simp only [List.getElem?_toArray, List.getElem?_cons_succ, List.getElem?_cons_zero, Option.some.injEq] at ho; subst ho
            go_simp
            (go_at_call 113; (with_reducible refine (cUB.out _).mono ?_); rintro e w6 ⟨rfl, b6⟩)
            have c6 := cell_keep b6 (show w3.drew.cell? _ = _ from cB)
            have P6 := (P4.on (Below.refl _ _).drew).on b6
            refine hK.out _ _ c6 (fun _ => ?_)
            clear hK K
            try simp only [Act.put, List.setIfInBounds_toArray, List.set_cons_zero, List.set_cons_succ]
            refine nextS 6 (by kernel_rfl) (by rfl) (fun o ho K hK => ?_)
            simp only [List.getElem?_toArray, List.getElem?_cons_succ, List.getElem?_cons_zero, Option.some.injEq] at ho; subst ho
            refine wp_copy_str _ (.tmp 61) (.tmp 65) (by rfl) (by rfl) (by rfl) (D.ch_lt hyu) P6.bT hyn (by rw [nc_size]; omega) ?_
            have P7 := P6.set (put_region hln hlc hsn.1 hsn.2 hyn hyu)
            have c7 := cell_row_ (g := w.heap.size + 1) (cs := ((nc (D.tb ⟨l0, [], []⟩)).toList.take 7 ++ bys (D.up (D.ns x1)) ++ (nc (D.tb ⟨l0, [], []⟩)).toList.drop (7 + (D.up (D.ns x1)).length)).toArray) c6 (P4.far _ rfl)
            refine hK.out _ _ c7 (fun _ => ?_)
            clear hK K
            try simp only [Act.put, List.setIfInBounds_toArray, List.set_cons_zero, List.set_cons_succ]
            refine wpAnyH_done (by kernel_rfl) ?_ _
            refine NoPanic.normal ?_
            have P7' : Ps w (w6.setRow (w.heap.size + 1) ((nc (D.tb ⟨l0, [], []⟩)).toList.take 7 ++ bys (D.up (D.ns x1)) ++ (nc (D.tb ⟨l0, [], []⟩)).toList.drop (7 + (D.up (D.ns x1)).length)).toArray) (some adB) m (x1 :: q1) ⟨l0, [], D.up (D.ns x1)⟩ := P7
            obtain ⟨w7, hw7⟩ : ∃ w7, w6.setRow (w.heap.size + 1) ((nc (D.tb ⟨l0, [], []⟩)).toList.take 7 ++ bys (D.up (D.ns x1)) ++ (nc (D.tb ⟨l0, [], []⟩)).toList.drop (7 + (D.up (D.ns x1)).length)).toArray = w7 := ⟨_, rfl⟩
            rw [hw7] at P7'
            try rw [hw7]
            clear P7 hw7 c6 c7 P6 b6 cUB cRB cB P4
            obtain ⟨m7, hm7⟩ : ∃ m7, m = m7 + 1 := ⟨q1.length, by have := P7'.row.len; simp at this; omega⟩
            obtain ⟨N7, hN7⟩ : ∃ N7, N = N7 + 1 := ⟨N - 1, by omega⟩
            have hlq : q1.length = m7 := by have := P7'.row.len; simp at this; omega
            obtain ⟨A7, hr7, hr8, hf7⟩ := from1_s (some adB) m7 N7 (by omega)
            rw [← hm7, ← hN7] at hr7
            rw [hm7] at P7'
            have P8 := P7'.low_ (hr8 _ _ _ P7'.row) (hf7 _ P7'.far)
            clear hr8 hf7 P7'
            have HM7 := Lib.hid hm7
            have HN7 := Lib.hid hN7
            clear hm7 hN7
            cases hq7 : q1 with
            | nil =>
              rw [hq7] at hlq HP' hqs P8
              have j1 : ¬ (0 : Int) < (m7 : Int) := by simp at hlq; omega
              have j2 : (m7 : Int) ≤ 0 := by omega
              have HLQ := Lib.hid hlq
              have HQ7 := Lib.hid hq7
              clear hlq hq7 hqs
              have hpf : D.parse (D.ns s) = some ⟨l0, [], D.up (D.ns x1)⟩ := by rw [HP'.out]; simp [D.tail3, hS, hRB]
              obtain ⟨y9, hy⟩ : ∃ y, D.tb ⟨l0, [], D.up (D.ns x1)⟩ = y := ⟨_, rfl⟩
              have HPF := Lib.hid hpf
              have HY := Lib.hid hy
              have hb9 := P8.bT
              rw [hy] at hb9
              have hx9 := rd_blk hb9
              have hT := P8.tR
              have hset := rd_set w7 w.heap.size y9 hT
              have b9 := below_setRow P8.bel (Nat.le_refl _) (nc y9)
              clear hpf hy hb9 P8 HP' hln hlc
              go_wp2
              refine bodyPost_ret (v := .tuple #[.agg (nc y9), .int .i64 0]) (by rw [results_cell_tmp rfl]; simp [asAddr, Result.andThen, lv_of_n hset]) rfl ⟨?_, b9⟩
              rw [HPF.out, ← HY.out]; rfl
            | cons z9 r9 =>
              rw [hq7] at hlq HP' hqs P8
              have j1 : (0 : Int) < (m7 : Int) := by simp at hlq; omega
              have HLQ := Lib.hid hlq
              have HQ7 := Lib.hid hq7
              clear hlq hq7 hqs
              have hpf : D.parse (D.ns s) = none := by rw [HP'.out]; cases r9 <;> simp [D.tail3, hS]
              have HPF := Lib.hid hpf
              have hT := P8.tR
              have hset := rd_set w7 w.heap.size D.zero hT
              have b9 := below_setRow P8.bel (Nat.le_refl _) (nc D.zero)
              clear hpf P8 HP' hln hlc
              go_wp2
              refine bodyPost_ret (v := .tuple #[.agg (nc D.zero), .int .i64 14]) (by rw [results_cell_tmp rfl]; simp [asAddr, Result.andThen, lv_of_n hset]) rfl ⟨?_, b9⟩
              rw [HPF.out]; rfl
        | true =>
          rw [hS] at cSc
          have hn4 := (D.isS_iff.1 hS).1
          have hxc := D.ch_L (D.isS_iff.1 hS).2
          have hxs := hqs x1 (by simp)
          have hcn : (D.cap (D.ns x1)).length = 4 := by rw [D.cap_len]; exact hn4
          have hcc : ∀ c ∈ D.cap (D.ns x1), D.Ch c := D.okS_ch (D.ok_cap hS)
          have cU1 := Lib.hid (fun w => upper_one x1 hxs hxc w)
          have cL1 := Lib.hid (fun w => lower_rest x1 hxs hxc w)
          have HC := Lib.hid (cap_cat (D.ns x1))
          have hsum := cap_sum x1 hxs
          have p2 : (1 : Int) ≤ (x1.size : Int) := by rw [D.ns_len] at hn4; omega
          clear hn4 hxc hxs
          obtain ⟨ad1, rfl, c1⟩ := P4.head
          have hsum1 := Lib.hid hsum
          clear hsum
          have HMM := Lib.hid hm
          clear hm
          go_wp2_with ((go_at_call 112; (with_reducible refine (cSc.out _).mono ?_); rintro e wk ⟨rfl, rfl⟩))
          refine wp_region_noPanic ?_
          refine wp_region_held_drew (S := fun W => W.cell? ad1 = some (.string x1)) (by kernel_rfl) c1 (fun _ => ?_)
          refine takeS 0 (some 35) ?vs0 (by kernel_rfl) (by kernel_rfl) (by kernel_rfl) (by kernel_rfl) (fun _ _ _ h => h) (by rfl) ?hys0 c1 ?rests0
          case hys0 => (intro o ho W hW; simp only [List.getElem?_toArray, List.getElem?_cons_succ, List.getElem?_cons_zero, Option.some.injEq] at ho; subst ho; (try dsimp only at hW); skip; go_simp; try rfl)
          try simp only [Act.put, List.setIfInBounds_toArray, List.set_cons_zero, List.set_cons_succ]
          refine takeS 1 (some 36) ?vs1 (by kernel_rfl) (by kernel_rfl) (by kernel_rfl) (by kernel_rfl) (fun _ _ _ h => h) (by rfl) ?hys1 c1 ?rests1
          case hys1 => (intro o ho W hW; simp only [List.getElem?_toArray, List.getElem?_cons_succ, List.getElem?_cons_zero, Option.some.injEq] at ho; subst ho; (try dsimp only at hW); skip; go_simp; try rfl)
          try simp only [Act.put, List.setIfInBounds_toArray, List.set_cons_zero, List.set_cons_succ]
          refine takeS 2 (some 37) ?vs2 (by kernel_rfl) (by kernel_rfl) (by kernel_rfl) (by kernel_rfl) (fun _ _ _ h => h) (by rfl) ?hys2 c1 ?rests2
          case hys2 => (intro o ho W hW; simp only [List.getElem?_toArray, List.getElem?_cons_succ, List.getElem?_cons_zero, Option.some.injEq] at ho; subst ho; (try dsimp only at hW); skip; go_simp; try rfl)
          try simp only [Act.put, List.setIfInBounds_toArray, List.set_cons_zero, List.set_cons_succ]
          refine takeS 3 (some 38) ?vs3 (by kernel_rfl) (by kernel_rfl) (by kernel_rfl) (by kernel_rfl) (fun _ _ _ h => h) (by rfl) ?hys3 c1 ?rests3
          case hys3 => (intro o ho W hW; simp only [List.getElem?_toArray, List.getElem?_cons_succ, List.getElem?_cons_zero, Option.some.injEq] at ho; subst ho; (try dsimp only at hW); skip; go_simp; try rfl)
          try simp only [Act.put, List.setIfInBounds_toArray, List.set_cons_zero, List.set_cons_succ]
          refine takeS 4 (some 39) ?vs4 (by kernel_rfl) (by kernel_rfl) (by kernel_rfl) (by kernel_rfl) (fun _ _ _ h => h) (by rfl) ?hys4 c1 ?rests4
          case hys4 => (intro o ho W hW; simp only [List.getElem?_toArray, List.getElem?_cons_succ, List.getElem?_cons_zero, Option.some.injEq] at ho; subst ho; (try dsimp only at hW); skip; go_simp; try rfl)
          try simp only [Act.put, List.setIfInBounds_toArray, List.set_cons_zero, List.set_cons_succ]
          refine takeS 5 (some 40) ?vs5 (by kernel_rfl) (by kernel_rfl) (by kernel_rfl) (by kernel_rfl) (fun _ _ _ h => h) (by rfl) ?hys5 c1 ?rests5
          case hys5 => (intro o ho W hW; simp only [List.getElem?_toArray, List.getElem?_cons_succ, List.getElem?_cons_zero, Option.some.injEq] at ho; subst ho; (try dsimp only at hW); skip; go_simp; try rfl)
          try simp only [Act.put, List.setIfInBounds_toArray, List.set_cons_zero, List.set_cons_succ]
          refine takeS 7 (some 42) ?vs7 (by kernel_rfl) (by kernel_rfl) (by kernel_rfl) (by kernel_rfl) (fun _ _ _ h => h) (by rfl) ?hys7 c1 ?rests7
          case hys7 => (intro o ho W hW; simp only [List.getElem?_toArray, List.getElem?_cons_succ, List.getElem?_cons_zero, Option.some.injEq] at ho; subst ho; (try dsimp only at hW); skip; go_simp; try rfl)
          try simp only [Act.put, List.setIfInBounds_toArray, List.set_cons_zero, List.set_cons_succ]
          refine takeS 8 (some 43) ?vs8 (by kernel_rfl) (by kernel_rfl) (by kernel_rfl) (by kernel_rfl) (fun _ _ _ h => h) (by rfl) ?hys8 c1 ?rests8
          case hys8 => (intro o ho W hW; simp only [List.getElem?_toArray, List.getElem?_cons_succ, List.getElem?_cons_zero, Option.some.injEq] at ho; subst ho; (try dsimp only at hW); skip; go_simp; try rfl)
          try simp only [Act.put, List.setIfInBounds_toArray, List.set_cons_zero, List.set_cons_succ]
          refine takeS 9 (some 44) ?vs9 (by kernel_rfl) (by kernel_rfl) (by kernel_rfl) (by kernel_rfl) (fun _ _ _ h => h) (by rfl) ?hys9 c1 ?rests9
          case hys9 => (intro o ho W hW; simp only [List.getElem?_toArray, List.getElem?_cons_succ, List.getElem?_cons_zero, Option.some.injEq] at ho; subst ho; (try dsimp only at hW); skip; go_simp; try rfl)
          try simp only [Act.put, List.setIfInBounds_toArray, List.set_cons_zero, List.set_cons_succ]
          refine takeS 10 (some 45) ?vs10 (by kernel_rfl) (by kernel_rfl) (by kernel_rfl) (by kernel_rfl) (fun _ _ _ h => h) (by rfl) ?hys10 c1 ?rests10
          case hys10 => (intro o ho W hW; simp only [List.getElem?_toArray, List.getElem?_cons_succ, List.getElem?_cons_zero, Option.some.injEq] at ho; subst ho; (try dsimp only at hW); skip; go_simp; try rfl)
          try simp only [Act.put, List.setIfInBounds_toArray, List.set_cons_zero, List.set_cons_succ]
          refine nextS 6 (by kernel_rfl) (by rfl) (fun o ho K hK => ?_)
          simp only [List.getElem?_toArray, List.getElem?_cons_succ, List.getElem?_cons_zero, Option.some.injEq] at ho; subst ho
          go_simp
          (go_at_call 113; (with_reducible refine (cU1.out _).mono ?_); rintro e w4 ⟨rfl, b4⟩)
          have c4 := cell_keep b4 (show w3.drew.cell? _ = _ from c1)
          have P5 := (P4.on (Below.refl _ _).drew).on b4
          refine hK.out _ _ c4 (fun _ => ?_)
          clear hK K
          try simp only [Act.put, List.setIfInBounds_toArray, List.set_cons_zero, List.set_cons_succ]
          refine nextS 11 (by kernel_rfl) (by rfl) (fun o ho K hK => ?_)
          simp only [List.getElem?_toArray, List.getElem?_cons_succ, List.getElem?_cons_zero, Option.some.injEq] at ho; subst ho
          go_simp
          (go_at_call 111; (with_reducible refine (cL1.out _).mono ?_); rintro e w5 ⟨rfl, b5⟩)
          have c5 := cell_keep b5 c4
          have P5' := P5.on b5
          refine hK.out _ _ c5 (fun _ => ?_)
          clear hK K
          try simp only [Act.put, List.setIfInBounds_toArray, List.set_cons_zero, List.set_cons_succ]
          refine takeS 12 (some 47) ?vs212 (by kernel_rfl) (by kernel_rfl) (by kernel_rfl) (by kernel_rfl) (fun _ _ _ h => h) (by rfl) ?hys212 c5 ?rests212
          case hys212 => (intro o ho W hW; simp only [List.getElem?_toArray, List.getElem?_cons_succ, List.getElem?_cons_zero, Option.some.injEq] at ho; subst ho; (try dsimp only at hW); have hsum2 := hsum1.out; go_simp; try rfl)
          try simp only [Act.put, List.setIfInBounds_toArray, List.set_cons_zero, List.set_cons_succ]
          refine nextS 13 (by kernel_rfl) (by rfl) (fun o ho K hK => ?_)
          simp only [List.getElem?_toArray, List.getElem?_cons_succ, List.getElem?_cons_zero, Option.some.injEq] at ho; subst ho
          refine wp_copy_str _ (.tmp 36) (.tmp 47) (by rfl) (by rfl) (congrArg Value.string HC.out) (D.ch_lt hcc) P5'.bT (by omega) (by rw [nc_size]; omega) ?_
          have Q3 := P5'.set (put_script hln hlc hcn hcc)
          have c6 := cell_row_ (g := w.heap.size + 1) (cs := ((nc (D.tb ⟨l0, [], []⟩)).toList.take 3 ++ bys (D.cap (D.ns x1)) ++ (nc (D.tb ⟨l0, [], []⟩)).toList.drop (3 + (D.cap (D.ns x1)).length)).toArray) c5 (P4.far _ rfl)
          refine hK.out _ _ c6 (fun _ => ?_)
          clear hK K
          try simp only [Act.put, List.setIfInBounds_toArray, List.set_cons_zero, List.set_cons_succ]
          refine wpAnyH_done (by kernel_rfl) ?_ _
          refine NoPanic.normal ?_
          have Q3' : Ps w (w5.setRow (w.heap.size + 1) ((nc (D.tb ⟨l0, [], []⟩)).toList.take 3 ++ bys (D.cap (D.ns x1)) ++ (nc (D.tb ⟨l0, [], []⟩)).toList.drop (3 + (D.cap (D.ns x1)).length)).toArray) (some ad1) m (x1 :: q1) ⟨l0, D.cap (D.ns x1), []⟩ := Q3
          obtain ⟨wS, hwS⟩ : ∃ wS, w5.setRow (w.heap.size + 1) ((nc (D.tb ⟨l0, [], []⟩)).toList.take 3 ++ bys (D.cap (D.ns x1)) ++ (nc (D.tb ⟨l0, [], []⟩)).toList.drop (3 + (D.cap (D.ns x1)).length)).toArray = wS := ⟨_, rfl⟩
          rw [hwS] at Q3'
          try rw [hwS]
          clear Q3 hwS c6 c5 c4 P5 P5' b4 b5 cU1 cL1 cSc c1 P4 HC hsum1 p2
          have hm := HMM.out
          obtain ⟨mS, hmS⟩ : ∃ mS, m = mS + 1 := ⟨q1.length, by simp at hm; omega⟩
          obtain ⟨NS, hNS⟩ : ∃ NS, N = NS + 1 := ⟨N - 1, by omega⟩
          have hlS : q1.length = mS := by simp at hm; omega
          have hmNS : mS ≤ NS := by omega
          obtain ⟨AS, hrS, hrS2, hfS⟩ := from1_s (some ad1) mS NS hmNS
          rw [← hmS, ← hNS] at hrS
          rw [hmS] at Q3'
          have Q4 := Q3'.low_ (hrS2 _ _ _ Q3'.row) (hfS _ Q3'.far)
          clear hrS2 hfS Q3' hm
          have HMS := Lib.hid hmS
          have HNS := Lib.hid hNS
          clear hmS hNS HMM
          go_upto_region 12 with fail
          clear hrS
          cases q1 with
          | nil =>
            have j3 : ¬ (0 : Int) < (mS : Int) := by simp at hlS; omega
            have j2 : (mS : Int) ≤ 0 := by omega
            have HLS := Lib.hid hlS
            clear hlS hqs
            have hpf : D.parse (D.ns s) = some ⟨l0, D.cap (D.ns x1), []⟩ := by rw [HP'.out]; simp [D.tail3, hS]
            obtain ⟨y9, hy⟩ : ∃ y, D.tb ⟨l0, D.cap (D.ns x1), []⟩ = y := ⟨_, rfl⟩
            have HPF := Lib.hid hpf
            have HY := Lib.hid hy
            have hb9 := Q4.bT
            rw [hy] at hb9
            have hx9 := rd_blk hb9
            have hT := Q4.tR
            have hset := rd_set wS w.heap.size y9 hT
            have b9 := below_setRow Q4.bel (Nat.le_refl _) (nc y9)
            clear hpf hy hb9 Q4 HP' hln hlc
            go_wp2
            refine bodyPost_ret (v := .tuple #[.agg (nc y9), .int .i64 0]) (by rw [results_cell_tmp rfl]; simp [asAddr, Result.andThen, lv_of_n hset]) rfl ⟨?_, b9⟩
            rw [HPF.out, ← HY.out]; rfl
          | cons y1 q2 =>
            have j3 : (0 : Int) < (mS : Int) := by simp at hlS; omega
            have HLS := Lib.hid hlS
            clear hlS
            have hscS : (D.cap (D.ns x1)).length ≤ 4 ∧ ∀ c ∈ D.cap (D.ns x1), D.Ch c := ⟨by omega, hcc⟩
            have hqs : ∀ x ∈ y1 :: q2, x.size ≤ 100 := fun x hx => hqs x (List.mem_cons_of_mem _ hx)
            obtain ⟨adS, rfl, cS⟩ := Q4.head
            have cRS := Lib.hid (fun w => isRegion_any y1 w (hqs y1 (by simp)))
            cases hRS : D.isR (D.ns y1) with
            | false =>
              rw [hRS] at cRS
              have hpf : D.parse (D.ns s) = none := by rw [HP'.out]; cases q2 with | nil => simp [D.tail3, hS, hRS] | cons a b => rfl
              have HPF := Lib.hid hpf
              have hT := Q4.tR
              have hset := rd_set wS w.heap.size D.zero hT
              have b9 := below_setRow Q4.bel (Nat.le_refl _) (nc D.zero)
              clear hpf Q4 HP' hln hlc
              clear hqs hRS
              go_wp2_with (first | (go_at_call 114; (with_reducible refine (cRS.out _).mono ?_); rintro e wk ⟨rfl, rfl⟩))
              refine bodyPost_ret (v := .tuple #[.agg (nc D.zero), .int .i64 14]) (by rw [results_cell_tmp rfl]; simp [asAddr, Result.andThen, lv_of_n hset]) rfl ⟨?_, b9⟩
              rw [HPF.out]; rfl
            | true =>
              rw [hRS] at cRS
              have hyc := D.ch_R hRS
              have hyn : (D.up (D.ns y1)).length ≤ 3 := by rw [D.up_len]; rcases D.isR_iff.1 hRS with ⟨h, _⟩ | ⟨h, _⟩ <;> omega
              have hyu : ∀ c ∈ D.up (D.ns y1), D.Ch c := D.okR_ch (D.ok_up hRS)
              have cUS := Lib.hid (fun w => upper_any y1 w (hqs y1 (by simp)) (ascii_ch hyc))
              clear hyc
              have hsn : ((D.cap (D.ns x1))).length ≤ 4 ∧ ∀ c ∈ (D.cap (D.ns x1)), D.Ch c := hscS
              go_wp2_with (first | (go_at_call 114; (with_reducible refine (cRS.out _).mono ?_); rintro e wk ⟨rfl, rfl⟩))
              refine wp_region_noPanic ?_
              refine wp_region_held_drew (S := fun W => W.cell? adS = some (.string y1)) (by kernel_rfl) cS (fun _ => ?_)
              refine takeS 0 (some 60) ?vrS0 (by kernel_rfl) (by kernel_rfl) (by kernel_rfl) (by kernel_rfl) (fun _ _ _ h => h) (by rfl) ?hyrS0 cS ?restrS0
              case hyrS0 => (intro o ho W hW; simp only [List.getElem?_toArray, List.getElem?_cons_succ, List.getElem?_cons_zero, Option.some.injEq] at ho; subst ho; (try dsimp only at hW); skip; go_simp; try rfl)
              try simp only [Act.put, List.setIfInBounds_toArray, List.set_cons_zero, List.set_cons_succ]
              refine takeS 1 (some 61) ?vrS1 (by kernel_rfl) (by kernel_rfl) (by kernel_rfl) (by kernel_rfl) (fun _ _ _ h => h) (by rfl) ?hyrS1 cS ?restrS1
              case hyrS1 => (intro o ho W hW; simp only [List.getElem?_toArray, List.getElem?_cons_succ, List.getElem?_cons_zero, Option.some.injEq] at ho; subst ho; (try dsimp only at hW); skip; go_simp; try rfl)
              try simp only [Act.put, List.setIfInBounds_toArray, List.set_cons_zero, List.set_cons_succ]
              refine takeS 2 (some 62) ?vrS2 (by kernel_rfl) (by kernel_rfl) (by kernel_rfl) (by kernel_rfl) (fun _ _ _ h => h) (by rfl) ?hyrS2 cS ?restrS2
              case hyrS2 => (intro o ho W hW; simp only [List.getElem?_toArray, List.getElem?_cons_succ, List.getElem?_cons_zero, Option.some.injEq] at ho; subst ho; (try dsimp only at hW); skip; go_simp; try rfl)
              try simp only [Act.put, List.setIfInBounds_toArray, List.set_cons_zero, List.set_cons_succ]
              refine takeS 3 (some 63) ?vrS3 (by kernel_rfl) (by kernel_rfl) (by kernel_rfl) (by kernel_rfl) (fun _ _ _ h => h) (by rfl) ?hyrS3 cS ?restrS3
              case hyrS3 => (intro o ho W hW; simp only [List.getElem?_toArray, List.getElem?_cons_succ, List.getElem?_cons_zero, Option.some.injEq] at ho; subst ho; (try dsimp only at hW); skip; go_simp; try rfl)
              try simp only [Act.put, List.setIfInBounds_toArray, List.set_cons_zero, List.set_cons_succ]
              refine takeS 4 (some 64) ?vrS4 (by kernel_rfl) (by kernel_rfl) (by kernel_rfl) (by kernel_rfl) (fun _ _ _ h => h) (by rfl) ?hyrS4 cS ?restrS4
              case hyrS4 => (intro o ho W hW; simp only [List.getElem?_toArray, List.getElem?_cons_succ, List.getElem?_cons_zero, Option.some.injEq] at ho; subst ho; (try dsimp only at hW); skip; go_simp; try rfl)
              try simp only [Act.put, List.setIfInBounds_toArray, List.set_cons_zero, List.set_cons_succ]
              refine nextS 5 (by kernel_rfl) (by rfl) (fun o ho K hK => ?_)
              simp only [List.getElem?_toArray, List.getElem?_cons_succ, List.getElem?_cons_zero, Option.some.injEq] at ho; subst ho
              go_simp
              (go_at_call 113; (with_reducible refine (cUS.out _).mono ?_); rintro e w6 ⟨rfl, b6⟩)
              have c6 := cell_keep b6 (show wS.drew.cell? _ = _ from cS)
              have P6 := (Q4.on (Below.refl _ _).drew).on b6
              refine hK.out _ _ c6 (fun _ => ?_)
              clear hK K
              try simp only [Act.put, List.setIfInBounds_toArray, List.set_cons_zero, List.set_cons_succ]
              refine nextS 6 (by kernel_rfl) (by rfl) (fun o ho K hK => ?_)
              simp only [List.getElem?_toArray, List.getElem?_cons_succ, List.getElem?_cons_zero, Option.some.injEq] at ho; subst ho
              refine wp_copy_str _ (.tmp 61) (.tmp 65) (by rfl) (by rfl) (by rfl) (D.ch_lt hyu) P6.bT hyn (by rw [nc_size]; omega) ?_
              have P7 := P6.set (put_region hln hlc hsn.1 hsn.2 hyn hyu)
              have c7 := cell_row_ (g := w.heap.size + 1) (cs := ((nc (D.tb ⟨l0, (D.cap (D.ns x1)), []⟩)).toList.take 7 ++ bys (D.up (D.ns y1)) ++ (nc (D.tb ⟨l0, (D.cap (D.ns x1)), []⟩)).toList.drop (7 + (D.up (D.ns y1)).length)).toArray) c6 (Q4.far _ rfl)
              refine hK.out _ _ c7 (fun _ => ?_)
              clear hK K
              try simp only [Act.put, List.setIfInBounds_toArray, List.set_cons_zero, List.set_cons_succ]
              refine wpAnyH_done (by kernel_rfl) ?_ _
              refine NoPanic.normal ?_
              have P7' : Ps w (w6.setRow (w.heap.size + 1) ((nc (D.tb ⟨l0, (D.cap (D.ns x1)), []⟩)).toList.take 7 ++ bys (D.up (D.ns y1)) ++ (nc (D.tb ⟨l0, (D.cap (D.ns x1)), []⟩)).toList.drop (7 + (D.up (D.ns y1)).length)).toArray) (some adS) mS (y1 :: q2) ⟨l0, (D.cap (D.ns x1)), D.up (D.ns y1)⟩ := P7
              obtain ⟨w7, hw7⟩ : ∃ w7, w6.setRow (w.heap.size + 1) ((nc (D.tb ⟨l0, (D.cap (D.ns x1)), []⟩)).toList.take 7 ++ bys (D.up (D.ns y1)) ++ (nc (D.tb ⟨l0, (D.cap (D.ns x1)), []⟩)).toList.drop (7 + (D.up (D.ns y1)).length)).toArray = w7 := ⟨_, rfl⟩
              rw [hw7] at P7'
              try rw [hw7]
              clear P7 hw7 c6 c7 P6 b6 cUS cRS cS Q4
              obtain ⟨m7, hm7⟩ : ∃ m7, mS = m7 + 1 := ⟨q2.length, by have := P7'.row.len; simp at this; omega⟩
              obtain ⟨N7, hN7⟩ : ∃ N7, NS = N7 + 1 := ⟨NS - 1, by omega⟩
              have hlq : q2.length = m7 := by have := P7'.row.len; simp at this; omega
              obtain ⟨A7, hr7, hr8, hf7⟩ := from1_s (some adS) m7 N7 (by omega)
              rw [← hm7, ← hN7] at hr7
              rw [hm7] at P7'
              have P8 := P7'.low_ (hr8 _ _ _ P7'.row) (hf7 _ P7'.far)
              clear hr8 hf7 P7'
              have HM7 := Lib.hid hm7
              have HN7 := Lib.hid hN7
              clear hm7 hN7
              cases hq7 : q2 with
              | nil =>
                rw [hq7] at hlq HP' hqs P8
                have j1 : ¬ (0 : Int) < (m7 : Int) := by simp at hlq; omega
                have j2 : (m7 : Int) ≤ 0 := by omega
                have HLQ := Lib.hid hlq
                have HQ7 := Lib.hid hq7
                clear hlq hq7 hqs
                have hpf : D.parse (D.ns s) = some ⟨l0, (D.cap (D.ns x1)), D.up (D.ns y1)⟩ := by rw [HP'.out]; simp [D.tail3, hS, hRS]
                obtain ⟨y9, hy⟩ : ∃ y, D.tb ⟨l0, (D.cap (D.ns x1)), D.up (D.ns y1)⟩ = y := ⟨_, rfl⟩
                have HPF := Lib.hid hpf
                have HY := Lib.hid hy
                have hb9 := P8.bT
                rw [hy] at hb9
                have hx9 := rd_blk hb9
                have hT := P8.tR
                have hset := rd_set w7 w.heap.size y9 hT
                have b9 := below_setRow P8.bel (Nat.le_refl _) (nc y9)
                clear hpf hy hb9 P8 HP' hln hlc
                go_wp2
                refine bodyPost_ret (v := .tuple #[.agg (nc y9), .int .i64 0]) (by rw [results_cell_tmp rfl]; simp [asAddr, Result.andThen, lv_of_n hset]) rfl ⟨?_, b9⟩
                rw [HPF.out, ← HY.out]; rfl
              | cons z9 r9 =>
                rw [hq7] at hlq HP' hqs P8
                have j1 : (0 : Int) < (m7 : Int) := by simp at hlq; omega
                have HLQ := Lib.hid hlq
                have HQ7 := Lib.hid hq7
                clear hlq hq7 hqs
                have hpf : D.parse (D.ns s) = none := by rw [HP'.out]; rfl
                have HPF := Lib.hid hpf
                have hT := P8.tR
                have hset := rd_set w7 w.heap.size D.zero hT
                have b9 := below_setRow P8.bel (Nat.le_refl _) (nc D.zero)
                clear hpf P8 HP' hln hlc
                go_wp2
                refine bodyPost_ret (v := .tuple #[.agg (nc D.zero), .int .i64 14]) (by rw [results_cell_tmp rfl]; simp [asAddr, Result.andThen, lv_of_n hset]) rfl ⟨?_, b9⟩
                rw [HPF.out]; rfl
end Go.Proofs.YtgobbdfgjgjigaaGreatDoor
