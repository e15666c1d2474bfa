/-
  What is seen of a key, and of a prefix, at a time stays, whatever is published later (StoreStays).
-/
import Derived.Test.YteiikacgcfidmaaGreatDoorSnt
set_option linter.unusedVariables false
set_option linter.unusedSimpArgs false
set_option maxRecDepth 100000
namespace Go.Proofs.YteiikacgcfidmaaGreatDoor
open Go.RowKit
/-- Two stores in which the same is seen at a time. -/
def D.Same (M M2 : D.Sm) (t : Nat) : Prop := ∀ k, D.seen (M2.f k) t = D.seen (M.f k) t
theorem D.Sm.scn_same {M M2 : D.Sm} (h : M.wf) (h2 : M2.wf) {t : Nat} (hs : ∀ k, D.seen (M2.f k) t = D.seen (M.f k) t) (x : D.Px) (most : Int) : M2.scn t most (M2.keys x) [] = M.scn t most (M.keys x) [] := by
  rw [D.Sm.scn_eq, D.Sm.scn_eq, ← D.Sm.scan_ents, ← D.Sm.scan_ents, D.Sm.scan_same h h2 hs]
theorem D.Sm.scn_bd (M : D.Sm) (t : Nat) (most : Int) (ks : List D.Ky) (l : List Ent) : (M.scn t most ks l).1.length ≤ l.length + ks.length := by
  rw [D.Sm.scn_eq]
  have : (M.ents t ks).length ≤ ks.length := by
    unfold D.Sm.ents
    rw [List.length_map]
    exact List.length_filter_le _ _
  simp only [List.length_append, List.length_take]
  omega
attribute [local go_sem ↓] Go.wp_at_zero Go.wp_at_succ ld_k lv_k st_k eq_k ne_k bd_k ld_b lv_b st_b eq_b ne_b bd_25 ld_r lv_r st_rk eq_rk ne_rk bd_r ld_p lv_p st_px bd_p Nm.ld_a Nm.ld_n Nm.st_a Nm.st_n Nm.eq_a Nm.eq_n Nm.ne_a Nm.ne_n Nm.lv_a Nm.lv_n ld_a ld_n st_a st_n eq_a eq_n ne_a ne_n lv_a lv_n ld_l lv_l st_l bd_l bd_n bs_k ld_v lv_v st_v ne_v bd_v bs_v ld_rh ld_d lv_rh lv_d st_r st_d ne_rh eq_rh ne_d bd_rh bd_d ld_x lv_x st_x bd_x bs_x ld_e lv_e st_e bd_e bs_e ne_e
attribute [local go_sem] run_ldk run_lvk run_stk run_eqk run_nek run_bdk_z run_ldb run_lvb run_stb run_eqb run_neb run_ldr run_lvr run_strk run_eqrk run_nerk run_bdr_z run_ldp run_lvp run_stpx Nm.run_ld_a Nm.run_ld_n Nm.run_st_n Nm.run_eq_a Nm.run_eq_n Nm.run_ne_a Nm.run_ne_n Nm.run_lv_a Nm.run_lv_n Nm.rd_new Nm.rd_old Nm.rd_drew Nm.rd_drewN run_ld_a run_ld_n run_sw_a run_sw_n run_eq_a run_eq_n run_ne_a run_ne_n run_lv_a run_lv_n st_z ne_z eq_z rd_new rd_old rd_drew rd_drewN Shp.rd_new Shp.rd_old Shp.rd_drew Shp.rd_drewN Shp.rd_set Shp.tn_new Shp.tn_old Shp.tn_drew Shp.tn_drewN tn_new tn_old tn_drew tn_drewN rd_set setRow_alloc run_stn3 run_stt15 run_lvl run_ldl run_stl run_bdl run_bdn run_bdn0 run_bsk Shp.rd_extk cell_ext run_ldv run_lvv run_stv run_nev run_bdv_z run_bdv_d run_bdv_r run_bsv1 run_bsv0 run_ldrh run_ldd run_lvrh run_lvd run_str run_std run_nerh run_eqrh run_ned run_bdr0 run_bdd0 run_bdr1 run_bdd1 run_bdd9 run_ldx run_lvx run_stx run_lde run_lve run_bde run_bse1 run_bdv_3 Shp.rd_extk cell_ext
attribute [local go_sem] run_nee_same Shp.rd_extk cell_ext
set_option maxHeartbeats 16000000 in
theorem law_stays (hR : KRt) {A : Option Addr} {n c : Nat} {l : List Scv} {A2 : Option Addr} {n2 c2 : Nat} {l2 : List Scv} (k : D.Ky) (px : D.Px) {w : World} (hr : Shp.Row scS w A n l) (ho : ∀ r ∈ l, ∃ m, ScOk w r m) (hnc : n ≤ maxLen) (hr2 : Shp.Row scS w A2 n2 l2) (ho2 : ∀ r ∈ l2, ∃ m, ScOk w r m) (hnc2 : n2 ≤ maxLen) : Calls Tryz.prog 4 #[.slice A n c, .slice A2 n2 c2, .agg (kS.v k), .agg (pS.v px)] w fun e w' => e = .returned (.bool true) ∧ Below w.heap.size w w' := by
  have hlen : Kept (l.length = n) := ⟨hr.len⟩
  have hlen2 : Kept (l2.length = n2) := ⟨hr2.len⟩
  have hn63 : n ≤ 9223372036854775807 := by simp only [maxLen] at hnc; omega
  have hn632 : n2 ≤ 9223372036854775807 := by simp only [maxLen] at hnc2; omega
  have b0 : Below w.heap.size w ((w.alloc (.cells (kS.v k) 39)).alloc (.cells (pS.v px) 41)) := (below_alloc_ _ _).alloc (by simp) _
  have K0 : kS.rd ((w.alloc (.cells (kS.v k) 39)).alloc (.cells (pS.v px) 41)) ⟨w.heap.size, 0, none⟩ = some k := Shp.rd_on (Shp.rd_new (S := kS) w _ _ _ rfl) (below_alloc_ _ _)
  have P0 : pS.rd ((w.alloc (.cells (kS.v k) 39)).alloc (.cells (pS.v px) 41)) ⟨w.heap.size + 1, 0, none⟩ = some px := Shp.rd_new _ _ _ _ (by simp)
  obtain ⟨w0, hw0⟩ : ∃ w0, (w.alloc (.cells (kS.v k) 39)).alloc (.cells (pS.v px) 41) = w0 := ⟨_, rfl⟩
  rw [hw0] at b0 K0 P0
  obtain ⟨gp, hgp⟩ : ∃ gp, w.heap.size + 1 = gp := ⟨_, rfl⟩
  rw [hgp] at P0
  have HR := Lib.hid (hr.on b0)
  have HO := Lib.hid (fun r hr => let ⟨m, h⟩ := ho r hr; (⟨m, ScOk.on h b0⟩ : ∃ m, ScOk w0 r m))
  have HR2 := Lib.hid (hr2.on b0)
  have HO2 := Lib.hid (fun r hr => let ⟨m, h⟩ := ho2 r hr; (⟨m, ScOk.on h b0⟩ : ∃ m, ScOk w0 r m))
  have HK0 := Lib.hid K0
  have HP0 := Lib.hid P0
  have HB0 := Lib.hid b0
  have CN := Lib.hid (snew_any w0.heap.size w0 (Nat.le_refl _))
  clear hr ho hnc hr2 ho2 hnc2 K0 P0 b0
  go_enter Tryz.func4, Tryz.ntmps4
  go_wp2_with fail
  try rw [hw0]
  try rw [hgp]
  clear hw0 hgp
  obtain ⟨gk, hgk⟩ : ∃ gk, w.heap.size = gk := ⟨_, rfl⟩
  try rw [hgk]
  rw [hgk] at HK0
  go_wp2_with (go_at_call 14; (with_reducible refine CN.out.mono ?_); rintro e w1 ⟨rfl, hS1, b1⟩; have HS1 := Lib.hid hS1; have B1 := Lib.hid b1; clear hS1 b1)
  obtain ⟨s, hs⟩ : ∃ s, w0.heap.size + 1 = s := ⟨_, rfl⟩
  try rw [hs]
  rw [hs] at HS1
  clear hs CN
  go_loopw [10] (fun i wr => ∃ (j : Nat) (M : D.Sm), j ≤ n ∧ j ≤ 12 ∧ i = .int .i64 j ∧ Hid (SM w0.heap.size wr s M ∧ M.last ≤ j ∧ M.ks.length ≤ 16 * j) ∧ Hid (Below w0.heap.size w0 wr)) (fun i _ => n - (intOf i).toNat)
  case atStart => exact ⟨0, _, Nat.zero_le _, by omega, rfl, Lib.hid ⟨HS1.out, Nat.le_refl _, Nat.le_refl _⟩, B1⟩
  case round =>
    obtain ⟨j, M, hj, hj12, rfl, HS, HB⟩ := hrel
    have hfin : Hid (SM w0.heap.size wr s M ∧ M.last < 990 ∧ M.ks.length ≤ 900) := Lib.hid ⟨HS.out.1, by have := HS.out.2.1; omega, by have := HS.out.2.2; omega⟩
    by_cases hlt : j < n
    · have j1 : (j : Int) < (n : Int) := by omega
      have j0 : (0 : Int) ≤ (j : Int) := by omega
      by_cases h12 : j < 12
      · have j2 : (j : Int) < 12 := by omega
        obtain ⟨x, hx⟩ : ∃ x, l[j]? = some x := ⟨_, List.getElem?_eq_getElem (by rw [hlen.out]; exact hlt)⟩
        obtain ⟨ad, hAe, hal, hrd⟩ := (HR.out.on HB.out).rd hx
        have hrd := sc_27 (show scS.rd wr (ad.add (j * 28)) = some x from hrd)
        obtain ⟨ls, hls⟩ := HO.out x (List.mem_of_getElem? hx)
        have CC := Lib.hid (scut_any (c := x.c) (hls.on HB.out).1 (fun x hx => (hls.2.1 x hx).2) hls.2.2)
        have HW := Lib.hid (fun x hx => (hls.2.1 x hx).1)
        subst hAe
        go_wp2_with (first
          | (go_at_call 9; (with_reducible refine CC.out.mono ?_); rintro e w2 ⟨B2, m2, d2, rfl, ho2, hm2, b2⟩; have CP := Lib.hid (pub_cut hR HS.out.1 (by have := HS.out.2.1; omega) (by have := HS.out.2.2; omega) ho2 hm2 b2 HW.out); clear ho2 hm2 b2)
          | (go_at_call 15; (with_reducible refine CP.out.mono ?_); rintro e w3 ⟨rfl, hS3, f3⟩; have HS3 := Lib.hid hS3; have HB3 := Lib.hid (f3.bel HB.out HB.out.size); clear hS3 f3))
        go_roundw
        case rel => exact ⟨j + 1, M.pub (D.cutL ls), by omega, by omega, by go_num, Lib.hid ⟨HS3.out, by have := (M.pub_last (D.cutL ls)).2; have := HS.out.2.1; omega, by have := M.pub_len (D.cutL ls); have := HS.out.2.2; omega⟩, HB3⟩
        case measure => simp [intOf]; omega
      · have j2 : ¬ ((j : Int) < 12) := by omega
        obtain ⟨SM0, hl0, hk0⟩ := hfin.out
        have hl12 : M.last ≤ 12 := by have := HS.out.2.1; omega
        have hk192 : M.ks.length ≤ 192 := by have := HS.out.2.2; omega
        clear hfin HS
        have HS0 := Lib.hid SM0
        have hwf : Hid M.wf := Lib.hid SM0.wf
        obtain ⟨L, hL⟩ : ∃ L, M.last = L := ⟨_, rfl⟩
        obtain ⟨r0, hr0⟩ : ∃ r0, (D.seen (M.f k) L).r = r0 := ⟨_, rfl⟩
        obtain ⟨i0, hi0⟩ : ∃ i0, (!(D.seen (M.f k) L).d) = i0 := ⟨_, rfl⟩
        obtain ⟨SC0, hsc⟩ : ∃ SC0, M.scn L 50 (M.keys px) [] = SC0 := ⟨_, rfl⟩
        obtain ⟨LS, mo⟩ := SC0
        obtain ⟨m, hm⟩ : ∃ m, LS.length = m := ⟨_, rfl⟩
        have CLA : Hid (∀ W, SM w0.heap.size W s M → Calls Tryz.prog 16 #[.pointer (some ⟨s, 0, none⟩)] W fun e w' => e = .returned (.int .u64 (L : Nat)) ∧ Below W.heap.size W w') := Lib.hid fun W h => by rw [← hL]; exact slast_any (SO.of h)
        have CRD : Hid (∀ W M2, SM w0.heap.size W s M2 → (M2.last ≤ 1000 ∧ M2.ks.length ≤ 1000 ∧ D.Same M M2 L) → Calls Tryz.prog 17 #[.pointer (some ⟨s, 0, none⟩), .agg (kS.v k), .int .u64 (L : Nat)] W fun e w' => e = .returned (.tuple #[.agg (rSh.v r0), .bool i0]) ∧ Below W.heap.size W w') := Lib.hid fun W M2 h h1 => by
          have := sread_any (SO.of h) h1.1 k L
          rwa [h1.2.2 k, hr0, hi0] at this
        have CSC : Hid (∀ W M2, SM w0.heap.size W s M2 → (M2.last ≤ 1000 ∧ M2.ks.length ≤ 1000 ∧ D.Same M M2 L) → Calls Tryz.prog 18 #[.pointer (some ⟨s, 0, none⟩), .agg (pS.v px), .int .u64 (L : Nat), .int .i64 50] W fun e w' => ∃ A c, e = .returned (.tuple #[.slice A m c, .bool mo]) ∧ Ow 60 34 W.heap.size w' A m c (eS.rcs LS) ∧ Below W.heap.size W w') := Lib.hid fun W M2 h h1 => by
          have := sscan_any (SO.of h) h1.1 h1.2.1 px L 50
          rw [D.Sm.scn_same hwf.out h.wf h1.2.2, hsc] at this
          rw [← hm]
          exact this
        have hok : Hid (M.last ≤ 1000 ∧ M.ks.length ≤ 1000 ∧ D.Same M M L) := Lib.hid ⟨by omega, by omega, fun y => rfl⟩
        have HM0 : Hid (SM w0.heap.size wr s M ∧ M.last ≤ 12 + 0 ∧ M.ks.length ≤ 192 + 16 * 0 ∧ L ≤ M.last ∧ D.Same M M L) := Lib.hid ⟨SM0, hl12, hk192, Nat.le_of_eq hL.symm, fun y => rfl⟩
        have hls : Kept (LS.length = m) := ⟨hm⟩
        have hm63 : m ≤ 1000 := by
          have := M.scn_bd L 50 (M.keys px) []
          rw [hsc, hm] at this
          have h2 : (M.keys px).length ≤ M.ks.length := List.length_filter_le _ _
          simp only [List.length_nil] at this
          omega
        clear hl0 hk0 SM0 hl12 hk192 hL hr0 hi0 hsc hm
        go_wp2_with (first
          | (go_at_call 16; (with_reducible refine (CLA.out _ HS0.out).mono ?_); rintro e w2 ⟨rfl, b2⟩; have D2 := Lib.hid b2; have k_ := Shp.rd_on HK0.out (below_up HB.out HB.out.size b2); clear b2)
          | (go_at_call 17; (with_reducible refine (CRD.out _ M (HS0.out.on D2.out) hok.out).mono ?_); rintro e w3 ⟨rfl, bw3⟩; have Dw3 := Lib.hid (below_up D2.out D2.out.size (below_up bw3 bw3.size (below_alloc_ w3 (.cells (rSh.v r0) 53)))); have Rw3 := Lib.hid (Blk.new w3 53 (rSh.v r0)); have p_ := Shp.rd_on HP0.out (below_up HB.out HB.out.size Dw3.out); clear bw3)
          | (go_at_call 18; (with_reducible refine (CSC.out _ M (HS0.out.on Dw3.out) hok.out).mono ?_); rintro e w4 ⟨A4, c4, rfl, ho4, b4⟩; have R4 := Lib.hid (Rw3.out.on b4); have B4 := Lib.hid (below_up HB.out HB.out.size (below_up Dw3.out Dw3.out.size b4)); have HO4 := Lib.hid (Ow.low ho4 (Nat.le_trans HB.out.size Dw3.out.size)); have HM4 := Lib.hid (And.intro (HS0.out.on (below_up Dw3.out Dw3.out.size b4)) HM0.out.2); clear ho4 b4 k_ p_))
        obtain ⟨gr, hgr⟩ : ∃ gr, w3.heap.size = gr := ⟨_, rfl⟩
        rw [hgr] at R4
        try rw [hgr]
        clear hgr HM0 HS0 D2 Dw3 Rw3
        go_loopw [16] (fun i wq => ∃ (q : Nat) (M2 : D.Sm), q ≤ n2 ∧ q ≤ 12 ∧ i = .int .i64 q ∧ Hid (SM w0.heap.size wq s M2 ∧ M2.last ≤ 12 + q ∧ M2.ks.length ≤ 192 + 16 * q ∧ L ≤ M2.last ∧ D.Same M M2 L) ∧ Hid (Below w0.heap.size w0 wq) ∧ Hid (Blk wq gr 53 (rSh.v r0)) ∧ Hid (Ow 60 34 w0.heap.size wq A4 m c4 (eS.rcs LS))) (fun i _ => n2 - (intOf i).toNat)
        case atStart => exact ⟨0, M, Nat.zero_le _, by omega, rfl, HM4, B4, R4, HO4⟩
        case round =>
          obtain ⟨q, M2, hq, hq12, rfl, HS2, HBQ, HRQ, HOQ⟩ := hrel
          by_cases hlt2 : q < n2
          · have j1 : (q : Int) < (n2 : Int) := by omega
            have j0 : (0 : Int) ≤ (q : Int) := by omega
            by_cases h12 : q < 12
            · have j2 : (q : Int) < 12 := by omega
              obtain ⟨x, hx⟩ : ∃ x, l2[q]? = some x := ⟨_, List.getElem?_eq_getElem (by rw [hlen2.out]; exact hlt2)⟩
              obtain ⟨ad, hAe, hal, hrd⟩ := (HR2.out.on HBQ.out).rd hx
              have hrd := sc_27 (show scS.rd _ (ad.add (q * 28)) = some x from hrd)
              obtain ⟨ls, hls2⟩ := HO2.out x (List.mem_of_getElem? hx)
              have CC := Lib.hid (scut_any (c := x.c) (hls2.on HBQ.out).1 (fun x hx => (hls2.2.1 x hx).2) hls2.2.2)
              have HW := Lib.hid (fun x hx => (hls2.2.1 x hx).1)
              have hok3 : Hid ((M2.pub (D.cutL ls)).last ≤ 1000 ∧ (M2.pub (D.cutL ls)).ks.length ≤ 1000 ∧ D.Same M (M2.pub (D.cutL ls)) L) := Lib.hid ⟨by have := (M2.pub_last (D.cutL ls)).2; have := HS2.out.2.1; omega, by have := M2.pub_len (D.cutL ls); have := HS2.out.2.2.1; omega, fun y => (M2.pub_seen (D.cutL ls) HS2.out.2.2.2.1 y).trans (HS2.out.2.2.2.2 y)⟩
              have hst3 : Hid ((M2.pub (D.cutL ls)).last ≤ 12 + (q + 1) ∧ (M2.pub (D.cutL ls)).ks.length ≤ 192 + 16 * (q + 1) ∧ L ≤ (M2.pub (D.cutL ls)).last ∧ D.Same M (M2.pub (D.cutL ls)) L) := Lib.hid ⟨by have := (M2.pub_last (D.cutL ls)).2; have := HS2.out.2.1; omega, by have := M2.pub_len (D.cutL ls); have := HS2.out.2.2.1; omega, Nat.le_trans HS2.out.2.2.2.1 (M2.pub_last (D.cutL ls)).1, hok3.out.2.2⟩
              subst hAe
              go_wp2_with (first
                | (go_at_call 9; (with_reducible refine CC.out.mono ?_); rintro e w5 ⟨B5, m5, d5, rfl, ho5, hm5, b5⟩; have CP := Lib.hid (pub_cut hR HS2.out.1 (by have := HS2.out.2.1; omega) (by have := HS2.out.2.2.1; omega) ho5 hm5 b5 HW.out); clear ho5 hm5 b5)
                | (go_at_call 15; (with_reducible refine CP.out.mono ?_); rintro e w6 ⟨rfl, hS6, f6⟩; have HS6 := Lib.hid hS6; have HB6 := Lib.hid (f6.bel HBQ.out HBQ.out.size); have HR6 := Lib.hid (Frm.blk f6 HRQ.out (by decide)); have HO6 := Lib.hid (Frm.ow f6 HOQ.out (by decide)); have D6 := Lib.hid (Below.refl w6.heap.size w6); have k_ := Shp.rd_on HK0.out HB6.out; clear hS6 f6 hrd)
                | (go_at_call 17; (with_reducible refine (CRD.out _ _ HS6.out hok3.out).mono ?_); rintro e w7 ⟨rfl, bw7⟩; have Dw7 := Lib.hid (below_up D6.out D6.out.size (below_up bw7 bw7.size (below_alloc_ w7 (.cells (rSh.v r0) 53)))); have Rw7 := Lib.hid (Blk.new w7 53 (rSh.v r0)); have p_ := Shp.rd_on HP0.out (below_up HB6.out HB6.out.size Dw7.out); clear bw7)
                | (go_at_call 18; (with_reducible refine (CSC.out _ _ (HS6.out.on Dw7.out) hok3.out).mono ?_); rintro e w8 ⟨A8, c8, rfl, ho8, b8⟩; have HR8 := Lib.hid (Rw7.out.on b8); have D8 := Lib.hid (below_up Dw7.out Dw7.out.size b8); have HO8 := Lib.hid ho8; have r1_ := Shp.rd_blk (S := rSh) HR8.out; have r2_ := Shp.rd_blk (S := rSh) (HR6.out.on D8.out); clear ho8 b8 k_ p_))
              go_loopw [21] (fun i wz => ∃ z : Nat, z ≤ m ∧ i = .int .i64 z ∧ Hid (Below w8.heap.size w8 wz)) (fun i _ => m - (intOf i).toNat)
              case atStart => exact ⟨0, Nat.zero_le _, rfl, Lib.hid (Below.refl _ _)⟩
              case round =>
                obtain ⟨z, hz, rfl, HZ⟩ := hrel
                by_cases hzm : z < m
                · have q1 : (z : Int) < (m : Int) := by omega
                  have q0 : (0 : Int) ≤ (z : Int) := by omega
                  obtain ⟨y, hy⟩ : ∃ y, LS[z]? = some y := ⟨_, List.getElem?_eq_getElem (by rw [hls.out]; exact hzm)⟩
                  obtain ⟨a8, hA8, hal8, hrd8⟩ := ((ow_srow (S := eS) HO8.out).on HZ.out).rd hy
                  obtain ⟨a4, hA4, hal4, hrd4⟩ := ((ow_srow (S := eS) (HO6.out.on D8.out)).on HZ.out).rd hy
                  have hrd8 := show eS.rd _ (a8.add (z * 34)) = some y from hrd8
                  have hrd4 := show eS.rd _ (a4.add (z * 34)) = some y from hrd4
                  have z1 := Shp.rd_lt hrd8
                  have z2 := Shp.rd_lt hrd4
                  subst hA8
                  subst hA4
                  clear r1_ r2_ hy
                  go_wp2_with fail
                  refine wp_region_ext (by kernel_rfl) (by kernel_rfl) ?_
                  repeat (go_big_quiet_step (fail))
                  refine wpQuiet_nil ?_
                  intro w9 hw9
                  have b9 := ext_to hw9
                  clear hw9
                  go_wp2
                  go_roundw
                  case rel => exact ⟨z + 1, by omega, by go_num, Lib.hid (below_up HZ.out HZ.out.size b9)⟩
                  case measure => simp [intOf]; omega
                · have q1 : ¬ ((z : Int) < (m : Int)) := by omega
                  clear r1_ r2_
                  go_wp2_with fail
                  have DZ := Lib.hid (below_up D8.out D8.out.size HZ.out)
                  go_roundw
                  case rel => exact ⟨q + 1, M2.pub (D.cutL ls), by omega, by omega, by go_num, Lib.hid ⟨HS6.out.on DZ.out, hst3.out⟩, Lib.hid (below_up HB6.out HB6.out.size DZ.out), Lib.hid (HR6.out.on DZ.out), Lib.hid (HO6.out.on DZ.out)⟩
                  case measure => simp [intOf]; omega
            · have j2 : ¬ ((q : Int) < 12) := by omega
              go_wp2_with (go_at_call 10; refine (known_any kr_all _).mono ?_; rintro e w9 ⟨rfl, b9⟩)
              go_ret
              exact ⟨rfl, below_up HB0.out HB0.out.size (below_up HBQ.out HBQ.out.size b9)⟩
          · have j1 : ¬ ((q : Int) < (n2 : Int)) := by omega
            go_wp2_with (go_at_call 10; refine (known_any kr_all _).mono ?_; rintro e w9 ⟨rfl, b9⟩)
            go_ret
            exact ⟨rfl, below_up HB0.out HB0.out.size (below_up HBQ.out HBQ.out.size b9)⟩
    · have j1 : ¬ ((j : Int) < (n : Int)) := by omega
      obtain ⟨SM0, hl0, hk0⟩ := hfin.out
      have hl12 : M.last ≤ 12 := by have := HS.out.2.1; omega
      have hk192 : M.ks.length ≤ 192 := by have := HS.out.2.2; omega
      clear hfin HS
      have HS0 := Lib.hid SM0
      have hwf : Hid M.wf := Lib.hid SM0.wf
      obtain ⟨L, hL⟩ : ∃ L, M.last = L := ⟨_, rfl⟩
      obtain ⟨r0, hr0⟩ : ∃ r0, (D.seen (M.f k) L).r = r0 := ⟨_, rfl⟩
      obtain ⟨i0, hi0⟩ : ∃ i0, (!(D.seen (M.f k) L).d) = i0 := ⟨_, rfl⟩
      obtain ⟨SC0, hsc⟩ : ∃ SC0, M.scn L 50 (M.keys px) [] = SC0 := ⟨_, rfl⟩
      obtain ⟨LS, mo⟩ := SC0
      obtain ⟨m, hm⟩ : ∃ m, LS.length = m := ⟨_, rfl⟩
      have CLA : Hid (∀ W, SM w0.heap.size W s M → Calls Tryz.prog 16 #[.pointer (some ⟨s, 0, none⟩)] W fun e w' => e = .returned (.int .u64 (L : Nat)) ∧ Below W.heap.size W w') := Lib.hid fun W h => by rw [← hL]; exact slast_any (SO.of h)
      have CRD : Hid (∀ W M2, SM w0.heap.size W s M2 → (M2.last ≤ 1000 ∧ M2.ks.length ≤ 1000 ∧ D.Same M M2 L) → Calls Tryz.prog 17 #[.pointer (some ⟨s, 0, none⟩), .agg (kS.v k), .int .u64 (L : Nat)] W fun e w' => e = .returned (.tuple #[.agg (rSh.v r0), .bool i0]) ∧ Below W.heap.size W w') := Lib.hid fun W M2 h h1 => by
        have := sread_any (SO.of h) h1.1 k L
        rwa [h1.2.2 k, hr0, hi0] at this
      have CSC : Hid (∀ W M2, SM w0.heap.size W s M2 → (M2.last ≤ 1000 ∧ M2.ks.length ≤ 1000 ∧ D.Same M M2 L) → Calls Tryz.prog 18 #[.pointer (some ⟨s, 0, none⟩), .agg (pS.v px), .int .u64 (L : Nat), .int .i64 50] W fun e w' => ∃ A c, e = .returned (.tuple #[.slice A m c, .bool mo]) ∧ Ow 60 34 W.heap.size w' A m c (eS.rcs LS) ∧ Below W.heap.size W w') := Lib.hid fun W M2 h h1 => by
        have := sscan_any (SO.of h) h1.1 h1.2.1 px L 50
        rw [D.Sm.scn_same hwf.out h.wf h1.2.2, hsc] at this
        rw [← hm]
        exact this
      have hok : Hid (M.last ≤ 1000 ∧ M.ks.length ≤ 1000 ∧ D.Same M M L) := Lib.hid ⟨by omega, by omega, fun y => rfl⟩
      have HM0 : Hid (SM w0.heap.size wr s M ∧ M.last ≤ 12 + 0 ∧ M.ks.length ≤ 192 + 16 * 0 ∧ L ≤ M.last ∧ D.Same M M L) := Lib.hid ⟨SM0, hl12, hk192, Nat.le_of_eq hL.symm, fun y => rfl⟩
      have hls : Kept (LS.length = m) := ⟨hm⟩
      have hm63 : m ≤ 1000 := by
        have := M.scn_bd L 50 (M.keys px) []
        rw [hsc, hm] at this
        have h2 : (M.keys px).length ≤ M.ks.length := List.length_filter_le _ _
        simp only [List.length_nil] at this
        omega
      clear hl0 hk0 SM0 hl12 hk192 hL hr0 hi0 hsc hm
      go_wp2_with (first
        | (go_at_call 16; (with_reducible refine (CLA.out _ HS0.out).mono ?_); rintro e w2 ⟨rfl, b2⟩; have D2 := Lib.hid b2; have k_ := Shp.rd_on HK0.out (below_up HB.out HB.out.size b2); clear b2)
        | (go_at_call 17; (with_reducible refine (CRD.out _ M (HS0.out.on D2.out) hok.out).mono ?_); rintro e w3 ⟨rfl, bw3⟩; have Dw3 := Lib.hid (below_up D2.out D2.out.size (below_up bw3 bw3.size (below_alloc_ w3 (.cells (rSh.v r0) 53)))); have Rw3 := Lib.hid (Blk.new w3 53 (rSh.v r0)); have p_ := Shp.rd_on HP0.out (below_up HB.out HB.out.size Dw3.out); clear bw3)
        | (go_at_call 18; (with_reducible refine (CSC.out _ M (HS0.out.on Dw3.out) hok.out).mono ?_); rintro e w4 ⟨A4, c4, rfl, ho4, b4⟩; have R4 := Lib.hid (Rw3.out.on b4); have B4 := Lib.hid (below_up HB.out HB.out.size (below_up Dw3.out Dw3.out.size b4)); have HO4 := Lib.hid (Ow.low ho4 (Nat.le_trans HB.out.size Dw3.out.size)); have HM4 := Lib.hid (And.intro (HS0.out.on (below_up Dw3.out Dw3.out.size b4)) HM0.out.2); clear ho4 b4 k_ p_))
      obtain ⟨gr, hgr⟩ : ∃ gr, w3.heap.size = gr := ⟨_, rfl⟩
      rw [hgr] at R4
      try rw [hgr]
      clear hgr HM0 HS0 D2 Dw3 Rw3
      go_loopw [16] (fun i wq => ∃ (q : Nat) (M2 : D.Sm), q ≤ n2 ∧ q ≤ 12 ∧ i = .int .i64 q ∧ Hid (SM w0.heap.size wq s M2 ∧ M2.last ≤ 12 + q ∧ M2.ks.length ≤ 192 + 16 * q ∧ L ≤ M2.last ∧ D.Same M M2 L) ∧ Hid (Below w0.heap.size w0 wq) ∧ Hid (Blk wq gr 53 (rSh.v r0)) ∧ Hid (Ow 60 34 w0.heap.size wq A4 m c4 (eS.rcs LS))) (fun i _ => n2 - (intOf i).toNat)
      case atStart => exact ⟨0, M, Nat.zero_le _, by omega, rfl, HM4, B4, R4, HO4⟩
      case round =>
        obtain ⟨q, M2, hq, hq12, rfl, HS2, HBQ, HRQ, HOQ⟩ := hrel
        by_cases hlt2 : q < n2
        · have j1 : (q : Int) < (n2 : Int) := by omega
          have j0 : (0 : Int) ≤ (q : Int) := by omega
          by_cases h12 : q < 12
          · have j2 : (q : Int) < 12 := by omega
            obtain ⟨x, hx⟩ : ∃ x, l2[q]? = some x := ⟨_, List.getElem?_eq_getElem (by rw [hlen2.out]; exact hlt2)⟩
            obtain ⟨ad, hAe, hal, hrd⟩ := (HR2.out.on HBQ.out).rd hx
            have hrd := sc_27 (show scS.rd _ (ad.add (q * 28)) = some x from hrd)
            obtain ⟨ls, hls2⟩ := HO2.out x (List.mem_of_getElem? hx)
            have CC := Lib.hid (scut_any (c := x.c) (hls2.on HBQ.out).1 (fun x hx => (hls2.2.1 x hx).2) hls2.2.2)
            have HW := Lib.hid (fun x hx => (hls2.2.1 x hx).1)
            have hok3 : Hid ((M2.pub (D.cutL ls)).last ≤ 1000 ∧ (M2.pub (D.cutL ls)).ks.length ≤ 1000 ∧ D.Same M (M2.pub (D.cutL ls)) L) := Lib.hid ⟨by have := (M2.pub_last (D.cutL ls)).2; have := HS2.out.2.1; omega, by have := M2.pub_len (D.cutL ls); have := HS2.out.2.2.1; omega, fun y => (M2.pub_seen (D.cutL ls) HS2.out.2.2.2.1 y).trans (HS2.out.2.2.2.2 y)⟩
            have hst3 : Hid ((M2.pub (D.cutL ls)).last ≤ 12 + (q + 1) ∧ (M2.pub (D.cutL ls)).ks.length ≤ 192 + 16 * (q + 1) ∧ L ≤ (M2.pub (D.cutL ls)).last ∧ D.Same M (M2.pub (D.cutL ls)) L) := Lib.hid ⟨by have := (M2.pub_last (D.cutL ls)).2; have := HS2.out.2.1; omega, by have := M2.pub_len (D.cutL ls); have := HS2.out.2.2.1; omega, Nat.le_trans HS2.out.2.2.2.1 (M2.pub_last (D.cutL ls)).1, hok3.out.2.2⟩
            subst hAe
            go_wp2_with (first
              | (go_at_call 9; (with_reducible refine CC.out.mono ?_); rintro e w5 ⟨B5, m5, d5, rfl, ho5, hm5, b5⟩; have CP := Lib.hid (pub_cut hR HS2.out.1 (by have := HS2.out.2.1; omega) (by have := HS2.out.2.2.1; omega) ho5 hm5 b5 HW.out); clear ho5 hm5 b5)
              | (go_at_call 15; (with_reducible refine CP.out.mono ?_); rintro e w6 ⟨rfl, hS6, f6⟩; have HS6 := Lib.hid hS6; have HB6 := Lib.hid (f6.bel HBQ.out HBQ.out.size); have HR6 := Lib.hid (Frm.blk f6 HRQ.out (by decide)); have HO6 := Lib.hid (Frm.ow f6 HOQ.out (by decide)); have D6 := Lib.hid (Below.refl w6.heap.size w6); have k_ := Shp.rd_on HK0.out HB6.out; clear hS6 f6 hrd)
              | (go_at_call 17; (with_reducible refine (CRD.out _ _ HS6.out hok3.out).mono ?_); rintro e w7 ⟨rfl, bw7⟩; have Dw7 := Lib.hid (below_up D6.out D6.out.size (below_up bw7 bw7.size (below_alloc_ w7 (.cells (rSh.v r0) 53)))); have Rw7 := Lib.hid (Blk.new w7 53 (rSh.v r0)); have p_ := Shp.rd_on HP0.out (below_up HB6.out HB6.out.size Dw7.out); clear bw7)
              | (go_at_call 18; (with_reducible refine (CSC.out _ _ (HS6.out.on Dw7.out) hok3.out).mono ?_); rintro e w8 ⟨A8, c8, rfl, ho8, b8⟩; have HR8 := Lib.hid (Rw7.out.on b8); have D8 := Lib.hid (below_up Dw7.out Dw7.out.size b8); have HO8 := Lib.hid ho8; have r1_ := Shp.rd_blk (S := rSh) HR8.out; have r2_ := Shp.rd_blk (S := rSh) (HR6.out.on D8.out); clear ho8 b8 k_ p_))
            go_loopw [21] (fun i wz => ∃ z : Nat, z ≤ m ∧ i = .int .i64 z ∧ Hid (Below w8.heap.size w8 wz)) (fun i _ => m - (intOf i).toNat)
            case atStart => exact ⟨0, Nat.zero_le _, rfl, Lib.hid (Below.refl _ _)⟩
            case round =>
              obtain ⟨z, hz, rfl, HZ⟩ := hrel
              by_cases hzm : z < m
              · have q1 : (z : Int) < (m : Int) := by omega
                have q0 : (0 : Int) ≤ (z : Int) := by omega
                obtain ⟨y, hy⟩ : ∃ y, LS[z]? = some y := ⟨_, List.getElem?_eq_getElem (by rw [hls.out]; exact hzm)⟩
                obtain ⟨a8, hA8, hal8, hrd8⟩ := ((ow_srow (S := eS) HO8.out).on HZ.out).rd hy
                obtain ⟨a4, hA4, hal4, hrd4⟩ := ((ow_srow (S := eS) (HO6.out.on D8.out)).on HZ.out).rd hy
                have hrd8 := show eS.rd _ (a8.add (z * 34)) = some y from hrd8
                have hrd4 := show eS.rd _ (a4.add (z * 34)) = some y from hrd4
                have z1 := Shp.rd_lt hrd8
                have z2 := Shp.rd_lt hrd4
                subst hA8
                subst hA4
                clear r1_ r2_ hy
                go_wp2_with fail
                refine wp_region_ext (by kernel_rfl) (by kernel_rfl) ?_
                repeat (go_big_quiet_step (fail))
                refine wpQuiet_nil ?_
                intro w9 hw9
                have b9 := ext_to hw9
                clear hw9
                go_wp2
                go_roundw
                case rel => exact ⟨z + 1, by omega, by go_num, Lib.hid (below_up HZ.out HZ.out.size b9)⟩
                case measure => simp [intOf]; omega
              · have q1 : ¬ ((z : Int) < (m : Int)) := by omega
                clear r1_ r2_
                go_wp2_with fail
                have DZ := Lib.hid (below_up D8.out D8.out.size HZ.out)
                go_roundw
                case rel => exact ⟨q + 1, M2.pub (D.cutL ls), by omega, by omega, by go_num, Lib.hid ⟨HS6.out.on DZ.out, hst3.out⟩, Lib.hid (below_up HB6.out HB6.out.size DZ.out), Lib.hid (HR6.out.on DZ.out), Lib.hid (HO6.out.on DZ.out)⟩
                case measure => simp [intOf]; omega
          · have j2 : ¬ ((q : Int) < 12) := by omega
            go_wp2_with (go_at_call 10; refine (known_any kr_all _).mono ?_; rintro e w9 ⟨rfl, b9⟩)
            go_ret
            exact ⟨rfl, below_up HB0.out HB0.out.size (below_up HBQ.out HBQ.out.size b9)⟩
        · have j1 : ¬ ((q : Int) < (n2 : Int)) := by omega
          go_wp2_with (go_at_call 10; refine (known_any kr_all _).mono ?_; rintro e w9 ⟨rfl, b9⟩)
          go_ret
          exact ⟨rfl, below_up HB0.out HB0.out.size (below_up HBQ.out HBQ.out.size b9)⟩
end Go.Proofs.YteiikacgcfidmaaGreatDoor
