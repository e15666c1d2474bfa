/-
  Where two keys part, and the bits at which any key leaves others, are the document's.
-/
import Derived.Test.YtkhjnfplcaffnaaDn
import Derived.Test.YtkhjnfplcaffnaaCef
import Derived.Test.YtkhjnfplcaffnaaCkn
set_option linter.unusedVariables false
set_option linter.unusedSimpArgs false
set_option maxRecDepth 100000
namespace Go.Proofs.Ytkhjnfplcaffnaa
open Go.RowKit
attribute [local go_sem ↓] Go.wp_at_zero Go.wp_at_succ ld_k lv_k st_k eq_k ne_k bd_k ld_b lv_b st_b eq_b ne_b bd_25 ld_r lv_r st_rk eq_rk ne_rk bd_r ld_p lv_p st_px bd_p Nm.ld_a Nm.ld_n Nm.st_a Nm.st_n Nm.eq_a Nm.eq_n Nm.ne_a Nm.ne_n Nm.lv_a Nm.lv_n ld_a ld_n st_a st_n eq_a eq_n ne_a ne_n lv_a lv_n ld_l lv_l st_l bd_l bd_n bs_l bs_k ld_e lv_e bd_e bs_e
attribute [local go_sem] run_ldk run_lvk run_stk run_eqk run_nek run_bdk_z run_ldb run_lvb run_stb run_eqb run_neb run_ldr run_lvr run_strk run_eqrk run_nerk run_bdr_z run_ldp run_lvp run_stpx Nm.run_ld_a Nm.run_ld_n Nm.run_st_n Nm.run_eq_a Nm.run_eq_n Nm.run_ne_a Nm.run_ne_n Nm.run_lv_a Nm.run_lv_n Nm.rd_new Nm.rd_old Nm.rd_drew Nm.rd_drewN run_ld_a run_ld_n run_sw_a run_sw_n run_eq_a run_eq_n run_ne_a run_ne_n run_lv_a run_lv_n st_z ne_z eq_z rd_new rd_old rd_drew rd_drewN Shp.rd_new Shp.rd_old Shp.rd_drew Shp.rd_drewN Shp.rd_set Shp.tn_new Shp.tn_old Shp.tn_drew Shp.tn_drewN tn_new tn_old tn_drew tn_drewN rd_set setRow_alloc run_stn3 run_stt15 run_lvl run_ldl run_stl run_bdl run_bdn run_bdn0 run_bsl run_bsk run_lde run_lve run_bde run_bse run_bse0 Shp.rd_extk cell_ext

set_option maxHeartbeats 16000000 in
theorem law_bits {w : World} {A : Option Addr} {n c : Nat} {acts : List Kac} (hr : Shp.Row aS w A n acts) (a b : D.Ky) :
    Calls Try.prog 5 #[.slice A n c, .agg (kS.v a), .agg (kS.v b)] w fun e w' => e = .returned (.bool true) ∧ Below w.heap.size w w' := by
  obtain ⟨w0, hw0⟩ : ∃ w0, (w.alloc (.cells (kS.v a) 30)).alloc (.cells (kS.v b) 30) = w0 := ⟨_, rfl⟩
  have a0 : kS.rd w0 ⟨w.heap.size, 0, none⟩ = some a := by rw [← hw0]; exact Shp.rd_on (Shp.rd_new (S := kS) w _ _ _ rfl) (below_alloc_ _ _)
  have k0 : kS.rd w0 ⟨w.heap.size + 1, 0, none⟩ = some b := by rw [← hw0]; exact Shp.rd_new _ _ _ _ (by simp)
  have b0 : Below w.heap.size w w0 := by rw [← hw0]; exact (below_alloc_ _ _).alloc (by simp) _
  have CM : Hid (Calls Try.prog 16 #[.slice A n c, .int .i64 40] w0 (MadeC w0 40)) := Lib.hid (made_any (hr.on b0) 40 (by omega))
  have CK := Lib.hid (fun W => known_any W)
  have COF := Lib.hid (fun (x : D.Ky) W => lawof_any x W)
  have CTO := Lib.hid (fun (x : D.Ky) W => lawto_any x W)
  have HB0 := Lib.hid b0
  obtain ⟨gp, hgp⟩ : ∃ gp, w.heap.size = gp := ⟨_, rfl⟩
  have HGP := Lib.hid hgp
  rw [hgp] at a0 k0
  have HA := Lib.hid a0
  have HK := Lib.hid k0
  clear hr a0 k0 b0
  go_enter Try.func5, Try.ntmps5
  go_wp2_with fail
  try rw [hw0]
  try rw [hgp]
  clear hw0 hgp
  go_wp2_with (go_at_call 16; (with_reducible refine CM.out.mono ?_); rintro e w1 ⟨g, o, A1, c1, rfl, hp1, b1, hl1⟩; have HTW : Hid (∀ W, Below w1.heap.size w1 W → Pls w0.heap.size g W o A1 c1) := Lib.hid (fun W hW => hp1.on hW); have B1 := Lib.hid b1; have HZ := Lib.hid hl1; have p1 := Shp.rd_on HA.out b1; have p2 := Shp.rd_on HK.out b1; clear hp1 b1 hl1)
  have l1 : gp < w1.heap.size := Shp.rd_lt p1
  have l2 : gp + 1 < w1.heap.size := Shp.rd_lt p2
  obtain ⟨l, hl⟩ : ∃ l, Cr.Tr.lso o = l := ⟨_, rfl⟩
  have HLL := Lib.hid hl
  have hz : l.length ≤ 40 := by rw [← hl]; exact HZ.out
  try rw [hl]
  obtain ⟨dv, hdv⟩ : ∃ dv, dfi a b = dv := ⟨_, rfl⟩
  have CD1 : Hid (∀ p : On, Calls Try.prog 22 #[.agg (kS.v a), .agg (kS.v b)] (ext w1 p) fun e w' => e = .returned (.int .i64 dv) ∧ Below (ext w1 p).heap.size (ext w1 p) w') := Lib.hid fun p => by
    have := differ_any a b (ext w1 p)
    rw [show (if Cr.par a b < 200 then ((Cr.par a b : Nat) : Int) else -1) = dv from hdv] at this
    exact this
  have CD2 : Hid (∀ p : On, Calls Try.prog 23 #[.agg (rS.v (D.toR a)), .agg (rS.v (D.toR b))] (ext w1 p) fun e w' => e = .returned (.int .i64 dv) ∧ Below (ext w1 p).heap.size (ext w1 p) w') := Lib.hid fun p => by
    have := rdiffer_any a b (ext w1 p)
    rw [hdv] at this
    exact this
  have COA := Lib.hid (fun (p : On) => COF.out a (ext w1 p))
  have COB := Lib.hid (fun (p : On) => COF.out b (ext w1 p))
  clear hl hdv CM
  refine wp_region_ext (by kernel_rfl) (by kernel_rfl) ?_
  repeat (go_big_quiet_step (first | (go_at_call 22; with_reducible exact calls_ext (CD1.out _)) | (go_at_call 23; with_reducible exact calls_ext (CD2.out _)) | (go_at_call 8; first | with_reducible exact calls_ext (COA.out _) | with_reducible exact calls_ext (COB.out _))))
  refine wpQuiet_nil ?_
  intro w2 hw2
  have b2 := ext_to hw2
  have HB2 := Lib.hid b2
  have HAW : Hid (∀ W, Below w2.heap.size w2 W → kS.rd W ⟨gp, 0, none⟩ = some a) := Lib.hid fun W hW => Shp.rd_on (Shp.rd_on p1 b2) hW
  have HT2 : Hid (∀ W, Below w2.heap.size w2 W → Pls w0.heap.size g W o A1 c1) := Lib.hid fun W hW => HTW.out W (b2.trans (hW.mono b2.size))
  have HDR : Hid (∀ W, Below w2.heap.size w2 W → Shp.Row eS W A1 l.length l) := Lib.hid fun W hW => by have := (HT2.out W hW).de.row; rwa [HLL.out] at this
  clear hw2 p1 p2 l1 l2 CD1 CD2 COA COB b2 HTW
  go_wp2_with fail
  go_loopw [10] (fun s10 wx => ∃ (i : Nat), i ≤ l.length + 1 ∧ s10 = .int .i64 ((i : Int) - 1) ∧ Hid (Below w2.heap.size w2 wx)) (fun s10 _ => l.length + 1 - ((intOf s10) + 1).toNat)
  case atStart => exact ⟨0, Nat.zero_le _, rfl, Lib.hid (Below.refl _ _)⟩
  case round =>
    obtain ⟨i, hi, rfl, HW⟩ := hrel
    by_cases hlt : i ≤ l.length
    · have CBR : Hid (∀ (y : D.Ky) (nb : Nat) (bs : List Nat), Cr.brs y l = bs → bs.length = nb → ∀ W, Below w2.heap.size w2 W → Calls Try.prog 25 #[.pointer (some ⟨g, 0, none⟩), .agg (kS.v y)] W fun e w' => ∃ (A : Option Addr) (c : Nat), e = .returned (.slice A nb c) ∧ Rw 1 w' A nb (ivs bs) ∧ nb ≤ maxLen ∧ Below W.heap.size W w') := Lib.hid (fun y nb bs h1 h2 W hW => by
        have h := branch_any g o y W (HT2.out W hW).tc.tr
        rw [HLL.out, h1, h2] at h
        refine h.mono ?_
        rintro e w' ⟨A, c, rfl, ho, hb⟩
        exact ⟨A, c, rfl, ho.to_row, Nat.le_trans ho.cap.1 ho.cap.2, hb⟩)
      have CRB : Hid (∀ (y : D.Ky) (nb : Nat) (bs : List Nat), Cr.brs y l = bs → bs.length = nb → ∀ W, Below w2.heap.size w2 W → Calls Try.prog 26 #[.slice A1 l.length c1, .agg (rS.v (D.toR y))] W fun e w' => ∃ (A : Option Addr) (c : Nat), e = .returned (.slice A nb c) ∧ Rw 1 w' A nb (ivs bs) ∧ Below W.heap.size W w') := Lib.hid (fun y nb bs h1 h2 W hW => by
        have h := rbranch_any (c := c1) (HDR.out W hW) (by omega) y
        rw [h1, h2] at h
        refine h.mono ?_
        rintro e w' ⟨A, c, rfl, ho, hb⟩
        exact ⟨A, c, rfl, ho.to_row, hb⟩)
      rcases Nat.eq_zero_or_pos i with h0 | h0
      · subst h0
        rw [show (((0 : Nat) : Int) - 1) = -1 from rfl]
        have i1 : (-1 : Int) < (l.length : Int) := by omega
        have q1 := HAW.out wr HW.out
        have K6 := Shp.rd_new (S := kS) wr wr.heap.size 30 a rfl
        have B6 := below_up HW.out HW.out.size (below_alloc_ wr (.cells (kS.v a) 30))
        obtain ⟨gk, hgk⟩ : ∃ gk, wr.heap.size = gk := ⟨_, rfl⟩
        obtain ⟨W6, hW6⟩ : ∃ W6, wr.alloc (.cells (kS.v a) 30) = W6 := ⟨_, rfl⟩
        rw [hgk, hW6] at K6
        rw [hW6] at B6
        go_wp2_with fail
        try rw [hW6]
        try rw [hgk]
        clear hW6 hgk q1
        obtain ⟨bs, hbs⟩ : ∃ bs, Cr.brs a l = bs := ⟨_, rfl⟩
        obtain ⟨nb, hnb⟩ : ∃ nb, bs.length = nb := ⟨_, rfl⟩
        have CB6 := Lib.hid (fun W (hW : Below W6.heap.size W6 W) => CBR.out a nb bs hbs hnb W (below_up B6 B6.size hW))
        have CR6 := Lib.hid (fun W (hW : Below W6.heap.size W6 W) => CRB.out a nb bs hbs hnb W (below_up B6 B6.size hW))
        have HNB := Lib.hid hnb
        clear hbs hnb CBR CRB
        obtain ⟨w7, hw7⟩ : ∃ w7, W6.drew = w7 := ⟨_, rfl⟩
        have s7 : Below W6.heap.size W6 w7 := by rw [← hw7]; exact (Below.refl _ _).drew
        refine wp_region_noPanic ?_
        refine wp_region_held_drew (S := fun W => Below W6.heap.size W6 W) (by kernel_rfl) (by rw [hw7]; exact s7) (fun sd => ?_)
        rw [hw7]
        clear hw7 sd
        refine takeS 0 (some 57) ?vza0 (by kernel_rfl) (by kernel_rfl) (by kernel_rfl) (by kernel_rfl) (fun _ _ _ h => h) (by rfl) ?hyza0 s7 ?restza0
        case hyza0 => (intro o ho W hW; simp only [List.getElem?_toArray, List.getElem?_cons_succ, List.getElem?_cons_zero, Option.some.injEq] at ho; subst ho; go_simp; try rfl)
        try simp only [Act.put, List.setIfInBounds_toArray, List.set_cons_zero, List.set_cons_succ]
        refine takeS 1 (some 58) ?vza1 (by kernel_rfl) (by kernel_rfl) (by kernel_rfl) (by kernel_rfl) (fun _ _ _ h => h) (by rfl) ?hyza1 s7 ?restza1
        case hyza1 => (intro o ho W hW; simp only [List.getElem?_toArray, List.getElem?_cons_succ, List.getElem?_cons_zero, Option.some.injEq] at ho; subst ho; have f_ := Shp.rd_on K6 hW; go_simp; try rfl)
        try simp only [Act.put, List.setIfInBounds_toArray, List.set_cons_zero, List.set_cons_succ]
        refine takeS 3 (some 60) ?vza3 (by kernel_rfl) (by kernel_rfl) (by kernel_rfl) (by kernel_rfl) (fun _ _ _ h => h) (by rfl) ?hyza3 s7 ?restza3
        case hyza3 => (intro o ho W hW; simp only [List.getElem?_toArray, List.getElem?_cons_succ, List.getElem?_cons_zero, Option.some.injEq] at ho; subst ho; go_simp; try rfl)
        try simp only [Act.put, List.setIfInBounds_toArray, List.set_cons_zero, List.set_cons_succ]
        refine takeS 4 (some 61) ?vza4 (by kernel_rfl) (by kernel_rfl) (by kernel_rfl) (by kernel_rfl) (fun _ _ _ h => h) (by rfl) ?hyza4 s7 ?restza4
        case hyza4 => (intro o ho W hW; simp only [List.getElem?_toArray, List.getElem?_cons_succ, List.getElem?_cons_zero, Option.some.injEq] at ho; subst ho; have f_ := Shp.rd_on K6 hW; go_simp; try rfl)
        try simp only [Act.put, List.setIfInBounds_toArray, List.set_cons_zero, List.set_cons_succ]
        refine nextS 2 (by kernel_rfl) (by rfl) (fun o ho K hK => ?_)
        simp only [List.getElem?_toArray, List.getElem?_cons_succ, List.getElem?_cons_zero, Option.some.injEq] at ho; subst ho
        go_simp
        (go_at_call 25; (with_reducible refine (CB6.out _ s7).mono ?_); rintro e8 w8 ⟨A8, c8, rfl, h8, hm8, b8⟩)
        have s8 := below_up s7 s7.size b8
        refine hK.out _ _ s8 (fun _ => ?_)
        clear hK K
        try simp only [Act.put, List.setIfInBounds_toArray, List.set_cons_zero, List.set_cons_succ]
        refine nextS 5 (by kernel_rfl) (by rfl) (fun o ho K hK => ?_)
        simp only [List.getElem?_toArray, List.getElem?_cons_succ, List.getElem?_cons_zero, Option.some.injEq] at ho; subst ho
        go_simp
        (go_at_call 8; (with_reducible refine (COF.out a _).mono ?_); rintro e9 w9 ⟨rfl, b9⟩)
        have s9 := below_up s8 s8.size b9
        refine hK.out _ _ s9 (fun _ => ?_)
        clear hK K
        try simp only [Act.put, List.setIfInBounds_toArray, List.set_cons_zero, List.set_cons_succ]
        refine nextS 6 (by kernel_rfl) (by rfl) (fun o ho K hK => ?_)
        simp only [List.getElem?_toArray, List.getElem?_cons_succ, List.getElem?_cons_zero, Option.some.injEq] at ho; subst ho
        go_simp
        (go_at_call 26; (with_reducible refine (CR6.out _ s9).mono ?_); rintro e10 w10 ⟨A10, c10, rfl, h10, b10⟩)
        have s10 := below_up s9 s9.size b10
        have h8' := (h8.on b9).on b10
        refine hK.out _ _ s10 (fun _ => ?_)
        clear hK K
        try simp only [Act.put, List.setIfInBounds_toArray, List.set_cons_zero, List.set_cons_succ]
        refine takeS 7 (some 12) ?vza7 (by kernel_rfl) (by kernel_rfl) (by kernel_rfl) (by kernel_rfl) (fun _ _ _ h => h) (by rfl) ?hyza7 s10 ?restza7
        case hyza7 => (intro o ho W hW; simp only [List.getElem?_toArray, List.getElem?_cons_succ, List.getElem?_cons_zero, Option.some.injEq] at ho; subst ho; go_simp; try rfl)
        try simp only [Act.put, List.setIfInBounds_toArray, List.set_cons_zero, List.set_cons_succ]
        refine takeS 8 (some 13) ?vza8 (by kernel_rfl) (by kernel_rfl) (by kernel_rfl) (by kernel_rfl) (fun _ _ _ h => h) (by rfl) ?hyza8 s10 ?restza8
        case hyza8 => (intro o ho W hW; simp only [List.getElem?_toArray, List.getElem?_cons_succ, List.getElem?_cons_zero, Option.some.injEq] at ho; subst ho; go_simp; try rfl)
        try simp only [Act.put, List.setIfInBounds_toArray, List.set_cons_zero, List.set_cons_succ]
        refine wpAnyH_done (by kernel_rfl) ?_ _
        refine NoPanic.normal ?_
        have H8 := Lib.hid h8'
        have H10 := Lib.hid h10
        have hnb64 : nb ≤ 9223372036854775807 := by simp only [maxLen] at hm8; omega
        have HB10 : Hid (Below w2.heap.size w2 w10) := Lib.hid (below_up B6 B6.size s10)
        clear h8 h8' h10 hm8 s7 s8 s9 s10 b8 b9 b10 K6 CB6 CR6 B6
        go_wp2_with fail
        go_loopw [14] (fun q_ wx => ∃ q : Nat, q ≤ nb ∧ q_ = .int .i64 q ∧ Hid (Below w10.heap.size w10 wx)) (fun q_ _ => nb - (intOf q_).toNat)
        case atStart => exact ⟨0, Nat.zero_le _, rfl, Lib.hid (Below.refl _ _)⟩
        case round =>
          obtain ⟨q, hq, rfl, HW10⟩ := hrel
          by_cases hqn : q < nb
          · have q0 : (0 : Int) ≤ (q : Int) := by omega
            have q1 : (q : Int) < (nb : Int) := by omega
            obtain ⟨u, hu⟩ : ∃ u, bs[q]? = some u := ⟨_, List.getElem?_eq_getElem (by have := HNB.out; omega)⟩
            have hu2 : (ivs bs)[q]? = some (.int .i64 (u : Nat)) := by simp [ivs, hu]
            obtain ⟨a8, rfl, hl8, hc8⟩ := (H8.out.on HW10.out).cell hu2
            obtain ⟨a9, rfl, hl9, hc9⟩ := (H10.out.on HW10.out).cell hu2
            have e8 : (a8.add q).block < wr.heap.size := by rw [block_of_add]; exact hl8
            have e9 : (a9.add q).block < wr.heap.size := by rw [block_of_add]; exact hl9
            clear hu hu2
            go_wp2_with fail
            refine wp_region_ext (by kernel_rfl) (by kernel_rfl) ?_
            repeat (go_big_quiet_step (fail))
            refine wpQuiet_nil ?_
            intro w11 hw11
            have b11 := ext_to hw11
            clear hw11
            go_wp2
            go_roundw
            case rel => exact ⟨q + 1, by omega, by go_num, Lib.hid (below_up HW10.out HW10.out.size b11)⟩
            case measure => simp [intOf] <;> omega
          · have q1 : ¬ ((q : Int) < (nb : Int)) := by omega
            go_wp2_with fail
            go_roundw
            case rel => exact ⟨0 + 1, by omega, by go_num, Lib.hid (below_up HB10.out HB10.out.size HW10.out)⟩
            case measure => simp [intOf] <;> omega
      · obtain ⟨j, rfl⟩ : ∃ j, i = j + 1 := ⟨i - 1, by omega⟩
        rw [show (((j + 1 : Nat) : Int) - 1) = (j : Int) by omega]
        have i1 : (j : Int) < (l.length : Int) := by omega
        have i0 : (0 : Int) ≤ (j : Int) := by omega
        obtain ⟨e, he⟩ : ∃ e, l[j]? = some e := ⟨_, List.getElem?_eq_getElem (by omega)⟩
        have q1 := HAW.out wr HW.out
        have bA := below_alloc_ wr (.cells (kS.v a) 30)
        have t5 : Shp.tn 25 (wr.alloc (.cells (kS.v a) 30)) wr.heap.size = true := Shp.tn_of (Blk.new wr _ _) (kS.v_size a)
        have b5 := below_up HW.out HW.out.size bA
        have lgk : w2.heap.size ≤ wr.heap.size := HW.out.size
        obtain ⟨gk, hgk⟩ : ∃ gk, wr.heap.size = gk := ⟨_, rfl⟩
        obtain ⟨W5, hW5⟩ : ∃ W5, wr.alloc (.cells (kS.v a) 30) = W5 := ⟨_, rfl⟩
        rw [hgk, hW5] at t5
        rw [hW5] at b5
        rw [hgk] at lgk
        have HT5 := Lib.hid t5
        have HB5 := Lib.hid b5
        have HE := Lib.hid he
        obtain ⟨ad, hAe, hal, hrd⟩ := (HDR.out W5 b5).rd he
        have hAe2 := hAe
        obtain ⟨r5, -⟩ := er hrd
        have l5 : (ad.add (j * 26)).block < W5.heap.size := Shp.rd_lt r5
        have HRD := Lib.hid r5
        subst hAe
        clear hrd hal he t5 b5 bA
        go_wp2_with fail
        try rw [hW5]
        try rw [hgk]
        clear hW5 hgk
        go_wp2_with (first
          | (go_at_call 24; (with_reducible refine (CTO.out _ _).mono ?_); rintro e5 w5 ⟨y, rfl, b5⟩; have t6 := Shp.tn_on HT5.out b5; have B5 := Lib.hid (below_up HB5.out HB5.out.size b5); clear b5)
          | fail)
        have KX := Shp.rd_set (S := kS) w5 gk y t6
        have BX := below_setRow B5.out lgk (kS.v y)
        obtain ⟨X6, hX6⟩ : ∃ X6, w5.setRow gk (kS.v y) = X6 := ⟨_, rfl⟩
        rw [hX6] at KX BX
        try rw [hX6]
        clear hX6 t6 l5 r5 q1
        obtain ⟨ad2, hax, hal, hrd⟩ := (HDR.out X6 BX).rd HE.out
        obtain rfl : ad2 = ad := (Option.some.inj hax).symm
        obtain ⟨r6, -⟩ := er hrd
        have l6 : (ad2.add (j * 26)).block < X6.heap.size := Shp.rd_lt r6
        have lk : gk < X6.heap.size := Shp.rd_lt KX
        have CY := Lib.hid (fun (p : On) => COF.out y (ext X6 p))
        have hsm := sm_toR y e.1
        clear hrd hal hax
        by_cases hye : y = e.1
        · rw [decide_eq_true hye] at hsm
          clear hye
          go_wp2_with fail
          refine wp_region_ext (by kernel_rfl) (by kernel_rfl) ?_
          repeat (go_big_quiet_step ((go_at_call 8; with_reducible exact calls_ext (CY.out _))))
          refine wpQuiet_nil ?_
          intro W6 hw6
          have b6 := ext_to hw6
          have K6 := Shp.rd_on KX b6
          have B6 := below_up BX BX.size b6
          clear hw6 b6 KX BX r6 l6 lk CY hsm
          go_wp2_with fail
          obtain ⟨bs, hbs⟩ : ∃ bs, Cr.brs y l = bs := ⟨_, rfl⟩
          obtain ⟨nb, hnb⟩ : ∃ nb, bs.length = nb := ⟨_, rfl⟩
          have CB6 := Lib.hid (fun W (hW : Below W6.heap.size W6 W) => CBR.out y nb bs hbs hnb W (below_up B6 B6.size hW))
          have CR6 := Lib.hid (fun W (hW : Below W6.heap.size W6 W) => CRB.out y nb bs hbs hnb W (below_up B6 B6.size hW))
          have HNB := Lib.hid hnb
          clear hbs hnb CBR CRB
          obtain ⟨w7, hw7⟩ : ∃ w7, W6.drew = w7 := ⟨_, rfl⟩
          have s7 : Below W6.heap.size W6 w7 := by rw [← hw7]; exact (Below.refl _ _).drew
          refine wp_region_noPanic ?_
          refine wp_region_held_drew (S := fun W => Below W6.heap.size W6 W) (by kernel_rfl) (by rw [hw7]; exact s7) (fun sd => ?_)
          rw [hw7]
          clear hw7 sd
          refine takeS 0 (some 57) ?vzb0 (by kernel_rfl) (by kernel_rfl) (by kernel_rfl) (by kernel_rfl) (fun _ _ _ h => h) (by rfl) ?hyzb0 s7 ?restzb0
          case hyzb0 => (intro o ho W hW; simp only [List.getElem?_toArray, List.getElem?_cons_succ, List.getElem?_cons_zero, Option.some.injEq] at ho; subst ho; go_simp; try rfl)
          try simp only [Act.put, List.setIfInBounds_toArray, List.set_cons_zero, List.set_cons_succ]
          refine takeS 1 (some 58) ?vzb1 (by kernel_rfl) (by kernel_rfl) (by kernel_rfl) (by kernel_rfl) (fun _ _ _ h => h) (by rfl) ?hyzb1 s7 ?restzb1
          case hyzb1 => (intro o ho W hW; simp only [List.getElem?_toArray, List.getElem?_cons_succ, List.getElem?_cons_zero, Option.some.injEq] at ho; subst ho; have f_ := Shp.rd_on K6 hW; go_simp; try rfl)
          try simp only [Act.put, List.setIfInBounds_toArray, List.set_cons_zero, List.set_cons_succ]
          refine takeS 3 (some 60) ?vzb3 (by kernel_rfl) (by kernel_rfl) (by kernel_rfl) (by kernel_rfl) (fun _ _ _ h => h) (by rfl) ?hyzb3 s7 ?restzb3
          case hyzb3 => (intro o ho W hW; simp only [List.getElem?_toArray, List.getElem?_cons_succ, List.getElem?_cons_zero, Option.some.injEq] at ho; subst ho; go_simp; try rfl)
          try simp only [Act.put, List.setIfInBounds_toArray, List.set_cons_zero, List.set_cons_succ]
          refine takeS 4 (some 61) ?vzb4 (by kernel_rfl) (by kernel_rfl) (by kernel_rfl) (by kernel_rfl) (fun _ _ _ h => h) (by rfl) ?hyzb4 s7 ?restzb4
          case hyzb4 => (intro o ho W hW; simp only [List.getElem?_toArray, List.getElem?_cons_succ, List.getElem?_cons_zero, Option.some.injEq] at ho; subst ho; have f_ := Shp.rd_on K6 hW; go_simp; try rfl)
          try simp only [Act.put, List.setIfInBounds_toArray, List.set_cons_zero, List.set_cons_succ]
          refine nextS 2 (by kernel_rfl) (by rfl) (fun o ho K hK => ?_)
          simp only [List.getElem?_toArray, List.getElem?_cons_succ, List.getElem?_cons_zero, Option.some.injEq] at ho; subst ho
          go_simp
          (go_at_call 25; (with_reducible refine (CB6.out _ s7).mono ?_); rintro e8 w8 ⟨A8, c8, rfl, h8, hm8, b8⟩)
          have s8 := below_up s7 s7.size b8
          refine hK.out _ _ s8 (fun _ => ?_)
          clear hK K
          try simp only [Act.put, List.setIfInBounds_toArray, List.set_cons_zero, List.set_cons_succ]
          refine nextS 5 (by kernel_rfl) (by rfl) (fun o ho K hK => ?_)
          simp only [List.getElem?_toArray, List.getElem?_cons_succ, List.getElem?_cons_zero, Option.some.injEq] at ho; subst ho
          go_simp
          (go_at_call 8; (with_reducible refine (COF.out y _).mono ?_); rintro e9 w9 ⟨rfl, b9⟩)
          have s9 := below_up s8 s8.size b9
          refine hK.out _ _ s9 (fun _ => ?_)
          clear hK K
          try simp only [Act.put, List.setIfInBounds_toArray, List.set_cons_zero, List.set_cons_succ]
          refine nextS 6 (by kernel_rfl) (by rfl) (fun o ho K hK => ?_)
          simp only [List.getElem?_toArray, List.getElem?_cons_succ, List.getElem?_cons_zero, Option.some.injEq] at ho; subst ho
          go_simp
          (go_at_call 26; (with_reducible refine (CR6.out _ s9).mono ?_); rintro e10 w10 ⟨A10, c10, rfl, h10, b10⟩)
          have s10 := below_up s9 s9.size b10
          have h8' := (h8.on b9).on b10
          refine hK.out _ _ s10 (fun _ => ?_)
          clear hK K
          try simp only [Act.put, List.setIfInBounds_toArray, List.set_cons_zero, List.set_cons_succ]
          refine takeS 7 (some 12) ?vzb7 (by kernel_rfl) (by kernel_rfl) (by kernel_rfl) (by kernel_rfl) (fun _ _ _ h => h) (by rfl) ?hyzb7 s10 ?restzb7
          case hyzb7 => (intro o ho W hW; simp only [List.getElem?_toArray, List.getElem?_cons_succ, List.getElem?_cons_zero, Option.some.injEq] at ho; subst ho; go_simp; try rfl)
          try simp only [Act.put, List.setIfInBounds_toArray, List.set_cons_zero, List.set_cons_succ]
          refine takeS 8 (some 13) ?vzb8 (by kernel_rfl) (by kernel_rfl) (by kernel_rfl) (by kernel_rfl) (fun _ _ _ h => h) (by rfl) ?hyzb8 s10 ?restzb8
          case hyzb8 => (intro o ho W hW; simp only [List.getElem?_toArray, List.getElem?_cons_succ, List.getElem?_cons_zero, Option.some.injEq] at ho; subst ho; go_simp; try rfl)
          try simp only [Act.put, List.setIfInBounds_toArray, List.set_cons_zero, List.set_cons_succ]
          refine wpAnyH_done (by kernel_rfl) ?_ _
          refine NoPanic.normal ?_
          have H8 := Lib.hid h8'
          have H10 := Lib.hid h10
          have hnb64 : nb ≤ 9223372036854775807 := by simp only [maxLen] at hm8; omega
          have HB10 : Hid (Below w2.heap.size w2 w10) := Lib.hid (below_up B6 B6.size s10)
          clear h8 h8' h10 hm8 s7 s8 s9 s10 b8 b9 b10 K6 CB6 CR6 B6
          go_wp2_with fail
          go_loopw [14] (fun q_ wx => ∃ q : Nat, q ≤ nb ∧ q_ = .int .i64 q ∧ Hid (Below w10.heap.size w10 wx)) (fun q_ _ => nb - (intOf q_).toNat)
          case atStart => exact ⟨0, Nat.zero_le _, rfl, Lib.hid (Below.refl _ _)⟩
          case round =>
            obtain ⟨q, hq, rfl, HW10⟩ := hrel
            by_cases hqn : q < nb
            · have q0 : (0 : Int) ≤ (q : Int) := by omega
              have q1 : (q : Int) < (nb : Int) := by omega
              obtain ⟨u, hu⟩ : ∃ u, bs[q]? = some u := ⟨_, List.getElem?_eq_getElem (by have := HNB.out; omega)⟩
              have hu2 : (ivs bs)[q]? = some (.int .i64 (u : Nat)) := by simp [ivs, hu]
              obtain ⟨a8, rfl, hl8, hc8⟩ := (H8.out.on HW10.out).cell hu2
              obtain ⟨a9, rfl, hl9, hc9⟩ := (H10.out.on HW10.out).cell hu2
              have e8 : (a8.add q).block < wr.heap.size := by rw [block_of_add]; exact hl8
              have e9 : (a9.add q).block < wr.heap.size := by rw [block_of_add]; exact hl9
              clear hu hu2
              go_wp2_with fail
              refine wp_region_ext (by kernel_rfl) (by kernel_rfl) ?_
              repeat (go_big_quiet_step (fail))
              refine wpQuiet_nil ?_
              intro w11 hw11
              have b11 := ext_to hw11
              clear hw11
              go_wp2
              go_roundw
              case rel => exact ⟨q + 1, by omega, by go_num, Lib.hid (below_up HW10.out HW10.out.size b11)⟩
              case measure => simp [intOf] <;> omega
            · have q1 : ¬ ((q : Int) < (nb : Int)) := by omega
              go_wp2_with fail
              go_roundw
              case rel => exact ⟨j + 1 + 1, by omega, by go_num, Lib.hid (below_up HB10.out HB10.out.size HW10.out)⟩
              case measure => simp [intOf] <;> omega
        · rw [decide_eq_false hye] at hsm
          clear hye
          go_wp2_with fail
          refine wp_region_ext (by kernel_rfl) (by kernel_rfl) ?_
          repeat (go_big_quiet_step ((go_at_call 8; with_reducible exact calls_ext (CY.out _))))
          refine wpQuiet_nil ?_
          intro W6 hw6
          have b6 := ext_to hw6
          have B6 := below_up BX BX.size b6
          clear hw6 b6 KX BX r6 l6 lk CY hsm
          go_wp2
          go_roundw
          case rel => exact ⟨j + 1 + 1, by omega, by go_num, Lib.hid B6⟩
          case measure => simp [intOf] <;> omega
    · have i1 : ¬ ((i : Int) - 1 < (l.length : Int)) := by omega
      go_wp2_with (first
        | (go_at_call 15; (with_reducible refine (CK.out _).mono ?_); rintro e w3 ⟨rfl, b3⟩)
        | fail)
      go_ret
      exact ⟨rfl, (HB0.out.trans (B1.out.mono HB0.out.size)).trans ((HB2.out.mono (by have := HB0.out.size; have := B1.out.size; omega)).trans ((below_up HW.out HW.out.size b3).mono (by have := HB0.out.size; have := B1.out.size; have := HB2.out.size; omega)))⟩
end Go.Proofs.Ytkhjnfplcaffnaa
