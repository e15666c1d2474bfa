/-
  Writes are published all at once, at one time, or nothing is (StoreWhole).
-/
import Derived.Test.YteiikacgcfidmaaGreatDoorSfo
set_option linter.unusedVariables false
set_option linter.unusedSimpArgs false
set_option maxRecDepth 100000
namespace Go.Proofs.YteiikacgcfidmaaGreatDoor
open Go.RowKit
namespace D
theorem has_zero (x : Ky) : has zK 0 x = true := by unfold has upto; simp
def pZ : Px := ⟨zK, 0, by decide⟩
theorem Sm.vers_all (M : Sm) : M.vers pZ = M.all := by
  unfold Sm.vers Sm.all
  rw [show (fun k => has pZ.x pZ.d k) = fun _ => true from funext has_zero, List.filter_eq_self.2 fun _ _ => rfl]
theorem sum_bd {f : Ky → Nat} {b : Nat} (h : ∀ k, f k ≤ b) : ∀ l : List Ky, (l.map f).sum ≤ l.length * b
  | [] => by simp
  | k :: l => by
    have h1 := sum_bd h l
    have h2 := h k
    rw [List.map_cons, List.sum_cons, List.length_cons, Nat.succ_mul]
    omega
theorem Sm.all_bd {M : Sm} (h : M.wf) (hl : M.last < 990) (hk : M.ks.length ≤ 900) : M.all ≤ 1000000 :=
  Nat.le_trans (sum_bd h.len M.ks) (Nat.le_trans (Nat.mul_le_mul hk (Nat.le_of_lt hl)) (by decide))
theorem Sm.pub_no {M : Sm} {l : List Wt} (h : M.err l ≠ 0) : M.pub l = M := by unfold Sm.pub; rw [if_neg h]
theorem Sm.pub_yes {M : Sm} {l : List Wt} (h : M.err l = 0) : M.pub l = M.app l := by unfold Sm.pub; rw [if_pos h]
theorem Sm.time_no {M : Sm} {l : List Wt} (h : M.err l ≠ 0) : M.time l = 0 := by unfold Sm.time; rw [if_neg h]
theorem Sm.time_yes {M : Sm} {l : List Wt} (h : M.err l = 0) : M.time l = M.last + 1 := by unfold Sm.time; rw [if_pos h]
theorem pub_new {M : Sm} {l : List Wt} (he : M.err l = 0) {x : Wt} (hx : x ∈ l) : nwt ((M.pub l).f x.k) = M.last + 1 := by
  rw [Sm.pub_yes he, Sm.app_in (Sm.err_ok he).1 hx, nwt_snoc]; rfl
theorem pub_all {M : Sm} (h : M.wf) {l : List Wt} (hr : ∀ x ∈ l, x.r.wf) (hl : M.last < 999) (he : M.err l = 0) : (M.pub l).all = M.all + l.length := by
  rw [Sm.pub_yes he, Sm.app_all h (Sm.err_ok he).1 hr (by omega)]
theorem pub_lst {M : Sm} {l : List Wt} (he : M.err l = 0) : (M.pub l).last = M.last + 1 := by rw [Sm.pub_yes he, Sm.app_last]
end D
theorem svers_zero {base s : Nat} {w : World} {M : D.Sm} (hS : SM base w s M) (hl : M.last ≤ 1000) (hk : M.ks.length ≤ 1000) : Calls Tryz.prog 20 #[.pointer (some ⟨s, 0, none⟩), .agg (pS.v D.pZ)] w fun e w' => e = .returned (.int .i64 (M.all : Nat)) ∧ Below w.heap.size w w' := by
  rw [← D.Sm.vers_all]
  exact svers_any (SO.of hS) hS.wf hl hk D.pZ
theorem run_bdp_z (w : World) : (bdp #[]).run Tryz.prog w = .ok (.agg (pS.v D.pZ)) w := by kernel_rfl
/-- The parts of a write, wherever it lies. -/
theorem xfa {w : World} {ad : Addr} {x : D.Wt} (h : xS.rd w ad = some x) : kS.rd w ad = some x.k ∧ w.cell? ⟨ad.block, ad.off + 25, none⟩ = some (.bool x.d) ∧ rSh.rd w ⟨ad.block, ad.off + 26, none⟩ = some x.r := by
  have hc : xS.At w ad x := Shp.at_of h
  have hn : (bys x.k.l).length = 25 := by rw [bys_len, x.k.len]
  have c : ∀ j u, (xcells x)[j]? = some u → w.cell? (ad.add j) = some u := hc
  refine ⟨Shp.rd_of fun j u hu => ?_, ?_, Shp.rd_of fun j u hu => ?_⟩
  · refine c j u ?_
    have hu : (bys x.k.l)[j]? = some u := hu
    rw [xcells, List.getElem?_append_left (List.getElem?_eq_some_iff.1 hu).1, hu]
  · exact c 25 (.bool x.d) (by rw [xcells, List.getElem?_append_right (by omega), hn]; rfl)
  · have e : (⟨ad.block, ad.off + 26, none⟩ : Addr).add j = ad.add (26 + j) := by
      by_cases hj : j = 0
      · subst hj; rfl
      · simp only [Addr.add, if_neg hj, if_neg (show ¬ 26 + j = 0 by omega), Nat.add_assoc]
    rw [e]
    refine c (26 + j) u ?_
    rw [xcells, List.getElem?_append_right (by omega), hn, show 26 + j - 25 = j + 1 by omega]
    exact hu
/-- One call at a world. -/
theorem pub_at (hR : KRt) {base s b : Nat} {W : World} {M : D.Sm} (hS : SM base W s M) (hl : M.last < 990) (hk : M.ks.length ≤ 900) {A : Option Addr} {n c : Nat} {l : List D.Wt} (ho : Ow 65 35 b W A n c (xS.rcs (D.cutL l))) (hn : n = (D.cutL l).length) (hw : ∀ x ∈ l, x.r.wf) :
    Calls Tryz.prog 15 #[.pointer (some ⟨s, 0, none⟩), .slice A n c] W fun e w' => e = .returned (.tuple #[.int .u64 (M.time (D.cutL l) : Nat), .int .i64 (M.err (D.cutL l) : Nat)]) ∧ SM base w' s (M.pub (D.cutL l)) ∧ Frm base W w' := by
  have := cutL_len l
  exact spub_any hR hS (by omega) (by omega) (xr_ow ho) (cutL_wf hw) (by omega)
attribute [local go_sem ↓] Go.wp_at_zero Go.wp_at_succ ld_k lv_k st_k eq_k ne_k bd_k ld_b lv_b st_b eq_b ne_b bd_25 ld_r lv_r st_rk eq_rk ne_rk bd_r ld_p lv_p st_px bd_p Nm.ld_a Nm.ld_n Nm.st_a Nm.st_n Nm.eq_a Nm.eq_n Nm.ne_a Nm.ne_n Nm.lv_a Nm.lv_n ld_a ld_n st_a st_n eq_a eq_n ne_a ne_n lv_a lv_n ld_l lv_l st_l bd_l bd_n bs_k ld_v lv_v st_v ne_v bd_v bs_v ld_rh ld_d lv_rh lv_d st_r st_d ne_rh eq_rh ne_d bd_rh bd_d ld_x lv_x st_x bd_x bs_x ld_e lv_e st_e bd_e bs_e ne_e
attribute [local go_sem] run_ldk run_lvk run_stk run_eqk run_nek run_bdk_z run_ldb run_lvb run_stb run_eqb run_neb run_ldr run_lvr run_strk run_eqrk run_nerk run_bdr_z run_ldp run_lvp run_stpx Nm.run_ld_a Nm.run_ld_n Nm.run_st_n Nm.run_eq_a Nm.run_eq_n Nm.run_ne_a Nm.run_ne_n Nm.run_lv_a Nm.run_lv_n Nm.rd_new Nm.rd_old Nm.rd_drew Nm.rd_drewN run_ld_a run_ld_n run_sw_a run_sw_n run_eq_a run_eq_n run_ne_a run_ne_n run_lv_a run_lv_n st_z ne_z eq_z rd_new rd_old rd_drew rd_drewN Shp.rd_new Shp.rd_old Shp.rd_drew Shp.rd_drewN Shp.rd_set Shp.tn_new Shp.tn_old Shp.tn_drew Shp.tn_drewN tn_new tn_old tn_drew tn_drewN rd_set setRow_alloc run_stn3 run_stt15 run_lvl run_ldl run_stl run_bdl run_bdn run_bdn0 run_bsk Shp.rd_extk cell_ext run_ldv run_lvv run_stv run_nev run_bdv_z run_bdv_d run_bdv_r run_bsv1 run_bsv0 run_ldrh run_ldd run_lvrh run_lvd run_str run_std run_nerh run_eqrh run_ned run_bdr0 run_bdd0 run_bdr1 run_bdd1 run_bdd9 run_ldx run_lvx run_stx run_lde run_lve run_bde run_bse1 run_bdv_3 Shp.rd_extk cell_ext
attribute [local go_sem] run_bdp_z Shp.rd_extk cell_ext
set_option maxHeartbeats 16000000 in
theorem law_whole (hR : KRt) {A : Option Addr} {n c : Nat} {l : List Scv} {A0 : Option Addr} {n0 c0 : Nat} {l0 : List D.Wt} {w : World} (hr : Shp.Row scS w A n l) (ho : ∀ r ∈ l, ∃ m, ScOk w r m) (hnc : n ≤ maxLen) (hr0 : Shp.Row xS w A0 n0 l0) (hw0 : ∀ x ∈ l0, x.r.wf ∧ x.r.t.size ≤ maxLen) (hn0 : n0 ≤ maxLen) : Calls Tryz.prog 5 #[.slice A n c, .slice A0 n0 c0] w fun e w' => e = .returned (.bool true) ∧ Below w.heap.size w w' := by
  have hlen : Kept (l.length = n) := ⟨hr.len⟩
  have hn63 : n ≤ 9223372036854775807 := by simp only [maxLen] at hnc; omega
  have HR := Lib.hid hr
  have HO := Lib.hid ho
  have H0 := Lib.hid (And.intro hr0 (And.intro hw0 hn0))
  have HW0 := Lib.hid (fun x (hx : x ∈ l0) => (hw0 x hx).1)
  have CN := Lib.hid (snew_any w.heap.size w (Nat.le_refl _))
  clear hr ho hnc hr0 hw0 hn0
  go_enter Tryz.func5, Tryz.ntmps5
  go_wp2_with (go_at_call 14; (with_reducible refine CN.out.mono ?_); rintro e w1 ⟨rfl, hS1, b1⟩; have HS1 := Lib.hid hS1; have B1 := Lib.hid b1; clear hS1 b1)
  obtain ⟨s, hs⟩ : ∃ s, w.heap.size + 1 = s := ⟨_, rfl⟩
  try rw [hs]
  rw [hs] at HS1
  clear hs CN
  go_loopw [6] (fun i wr => ∃ (j : Nat) (M : D.Sm), j ≤ n ∧ j ≤ 12 ∧ i = .int .i64 j ∧ Hid (SM w.heap.size wr s M ∧ M.last ≤ j ∧ M.ks.length ≤ 16 * j) ∧ Hid (Below w.heap.size w wr)) (fun i _ => n - (intOf i).toNat)
  case atStart => exact ⟨0, _, Nat.zero_le _, by omega, rfl, Lib.hid ⟨HS1.out, Nat.le_refl _, Nat.le_refl _⟩, B1⟩
  case round =>
    obtain ⟨j, M, hj, hj12, rfl, HS, HB⟩ := hrel
    have hfin : Hid (SM w.heap.size wr s M ∧ M.last < 990 ∧ M.ks.length ≤ 900) := Lib.hid ⟨HS.out.1, by have := HS.out.2.1; omega, by have := HS.out.2.2; omega⟩
    by_cases hlt : j < n
    · have j1 : (j : Int) < (n : Int) := by omega
      have j0 : (0 : Int) ≤ (j : Int) := by omega
      by_cases h12 : j < 12
      · have j2 : (j : Int) < 12 := by omega
        obtain ⟨x, hx⟩ : ∃ x, l[j]? = some x := ⟨_, List.getElem?_eq_getElem (by rw [hlen.out]; exact hlt)⟩
        obtain ⟨ad, hAe, hal, hrd⟩ := (HR.out.on HB.out).rd hx
        have hrd := sc_27 (show scS.rd wr (ad.add (j * 28)) = some x from hrd)
        obtain ⟨ls, hls⟩ := HO.out x (List.mem_of_getElem? hx)
        have CC := Lib.hid (scut_any (c := x.c) (hls.on HB.out).1 (fun x hx => (hls.2.1 x hx).2) hls.2.2)
        have HW := Lib.hid (fun x hx => (hls.2.1 x hx).1)
        subst hAe
        go_wp2_with (first
          | (go_at_call 9; (with_reducible refine CC.out.mono ?_); rintro e w2 ⟨B2, m2, d2, rfl, ho2, hm2, b2⟩; have CP := Lib.hid (pub_cut hR HS.out.1 (by have := HS.out.2.1; omega) (by have := HS.out.2.2; omega) ho2 hm2 b2 HW.out); clear ho2 hm2 b2)
          | (go_at_call 15; (with_reducible refine CP.out.mono ?_); rintro e w3 ⟨rfl, hS3, f3⟩; have HS3 := Lib.hid hS3; have HB3 := Lib.hid (f3.bel HB.out HB.out.size); clear hS3 f3))
        go_roundw
        case rel => exact ⟨j + 1, M.pub (D.cutL ls), by omega, by omega, by go_num, Lib.hid ⟨HS3.out, by have := (M.pub_last (D.cutL ls)).2; have := HS.out.2.1; omega, by have := M.pub_len (D.cutL ls); have := HS.out.2.2; omega⟩, HB3⟩
        case measure => simp [intOf]; omega
      · have j2 : ¬ ((j : Int) < 12) := by omega
        obtain ⟨SM0, hl0, hk0⟩ := hfin.out
        clear hfin HS
        have CC := Lib.hid (scut_any (c := c0) (H0.out.1.on HB.out) (fun x hx => (H0.out.2.1 x hx).2) H0.out.2.2)
        have HS0 := Lib.hid SM0
        obtain ⟨L, hL⟩ : ∃ L, M.last = L := ⟨_, rfl⟩
        obtain ⟨V, hV⟩ : ∃ V, M.all = V := ⟨_, rfl⟩
        obtain ⟨E, hE⟩ : ∃ E, M.err (D.cutL l0) = E := ⟨_, rfl⟩
        have CLA : Hid (∀ W, SM w.heap.size W s M → Calls Tryz.prog 16 #[.pointer (some ⟨s, 0, none⟩)] W fun e w' => e = .returned (.int .u64 (L : Nat)) ∧ Below W.heap.size W w') := Lib.hid fun W h => by rw [← hL]; exact slast_any (SO.of h)
        have CLI : Hid (∀ W, SM w.heap.size W s M → Calls Tryz.prog 19 #[.pointer (some ⟨s, 0, none⟩)] W fun e w' => e = .returned (.int .i64 (M.live : Nat)) ∧ Below W.heap.size W w') := Lib.hid fun W h => slive_any (SO.of h)
        have CVE : Hid (∀ W, SM w.heap.size W s M → Calls Tryz.prog 20 #[.pointer (some ⟨s, 0, none⟩), .agg (pS.v D.pZ)] W fun e w' => e = .returned (.int .i64 (V : Nat)) ∧ Below W.heap.size W w') := Lib.hid fun W h => by rw [← hV]; exact svers_zero h (by omega) (by omega)
        go_wp2_with (first
          | (go_at_call 9; (with_reducible refine CC.out.mono ?_); rintro e w2 ⟨B0, m0, d0, rfl, ho2, hm2, b2⟩; have HO2 := Lib.hid ho2; have HM := Lib.hid hm2; have HB2 := Lib.hid b2; clear ho2 hm2 b2)
          | (go_at_call 16; (with_reducible refine (CLA.out _ (HS0.out.on HB2.out)).mono ?_); rintro e w3 ⟨rfl, b3⟩; have HO3 := Lib.hid (HO2.out.on b3); have HB3 := Lib.hid (below_up HB2.out HB2.out.size b3); clear b3)
          | (go_at_call 19; (with_reducible refine (CLI.out _ (HS0.out.on HB3.out)).mono ?_); rintro e w4 ⟨rfl, b4⟩; have HO4 := Lib.hid (HO3.out.on b4); have HB4 := Lib.hid (below_up HB3.out HB3.out.size b4); clear b4)
          | (go_at_call 20; (with_reducible refine (CVE.out _ (HS0.out.on HB4.out)).mono ?_); rintro e w5 ⟨rfl, b5⟩; have HO5 := Lib.hid (HO4.out.on b5); have HB5 := Lib.hid (below_up HB4.out HB4.out.size b5); clear b5))
        have C1 := pub_at hR (HS0.out.on HB5.out) hl0 hk0 HO5.out HM.out HW0.out
        have B5 := Lib.hid (below_up HB.out HB.out.size HB5.out)
        by_cases he : E = 0
        · have he0 : M.err (D.cutL l0) = 0 := hE.trans he
          have hT0 := D.Sm.time_yes he0
          obtain ⟨T, hT⟩ : ∃ T, M.last + 1 = T := ⟨_, rfl⟩
          have hTL : (L : Int) + 1 = (T : Int) := by omega
          have hLb : (L : Int) < 990 := by omega
          have hV1 := D.pub_all HS0.out.wf (cutL_wf HW0.out) (by omega) he0
          rw [hT0, hT, he0, show ((0 : Nat) : Int) = 0 from rfl] at C1
          have hlM := D.pub_lst he0
          have hkM := M.pub_len (D.cutL l0)
          have hnw := fun x (hx : x ∈ D.cutL l0) => D.pub_new he0 hx
          have hsn := fun x (hx : x ∈ D.cutL l0) => D.pub_in HS0.out.wf (cutL_wf HW0.out) (by omega) he0 hx
          obtain ⟨M1, hM1⟩ : ∃ M1, M.pub (D.cutL l0) = M1 := ⟨_, rfl⟩
          rw [hM1] at C1 hV1 hlM hkM
          simp only [hM1, hT] at hnw hsn hlM
          have CRD : Hid (∀ W, SM w.heap.size W s M1 → ∀ x ∈ D.cutL l0, Calls Tryz.prog 17 #[.pointer (some ⟨s, 0, none⟩), .agg (kS.v x.k), .int .u64 (T : Nat)] W fun e w' => e = .returned (.tuple #[.agg (rSh.v (D.fkd x T)), .bool (!x.d)]) ∧ Below W.heap.size W w') := Lib.hid fun W h x hx => by
            have := sread_any (SO.of h) (by omega) x.k T
            rwa [hsn x hx] at this
          have CNW : Hid (∀ W, SM w.heap.size W s M1 → ∀ x ∈ D.cutL l0, Calls Tryz.prog 21 #[.pointer (some ⟨s, 0, none⟩), .agg (kS.v x.k)] W fun e w' => e = .returned (.int .u64 (T : Nat)) ∧ Below W.heap.size W w') := Lib.hid fun W h x hx => by
            have := snewest_any (SO.of h) (by omega) x.k
            rwa [hnw x hx] at this
          have CLB : Hid (∀ W, SM w.heap.size W s M1 → Calls Tryz.prog 16 #[.pointer (some ⟨s, 0, none⟩)] W fun e w' => e = .returned (.int .u64 (T : Nat)) ∧ Below W.heap.size W w') := Lib.hid fun W h => by rw [← hlM]; exact slast_any (SO.of h)
          have CVB : Hid (∀ W, SM w.heap.size W s M1 → Calls Tryz.prog 20 #[.pointer (some ⟨s, 0, none⟩), .agg (pS.v D.pZ)] W fun e w' => e = .returned (.int .i64 ((V + m0 : Nat) : Int)) ∧ Below W.heap.size W w') := Lib.hid fun W h => by rw [HM.out, ← hV, ← hV1]; exact svers_zero h (by omega) (by omega)
          obtain ⟨V1, hVm⟩ : ∃ V1, V + m0 = V1 := ⟨_, rfl⟩
          rw [hVm] at CVB
          have hVI : (V : Int) + (m0 : Int) = (V1 : Int) := by omega
          have hm20 : m0 ≤ 20 := by rw [HM.out]; exact cutL_len l0
          have hV20 : V ≤ 1000000 := by rw [← hV]; exact D.Sm.all_bd HS0.out.wf hl0 hk0
          have C1 := Lib.hid C1
          clear hT0 hV1 hlM hkM hnw hsn hM1 he0 hE he hVm hT hl0 hk0 SM0 CLA CLI CVE CC
          refine C1.out.mono ?_
          rintro e w6 ⟨rfl, hS6, f6⟩
          have HS6 := Lib.hid hS6
          have R6 := Lib.hid (ow_srow (S := xS) (Frm.ow f6 HO5.out (by decide)))
          have B6 := Lib.hid (Frm.bel f6 B5.out B5.out.size)
          clear hS6 f6 C1
          go_wp2_with fail
          go_loopw [12] (fun i wq => ∃ q : Nat, q ≤ m0 ∧ i = .int .i64 q ∧ Hid (Below w6.heap.size w6 wq)) (fun i _ => m0 - (intOf i).toNat)
          case atStart => exact ⟨0, Nat.zero_le _, rfl, Lib.hid (Below.refl _ _)⟩
          case round =>
            obtain ⟨q, hq, rfl, HQ⟩ := hrel
            have BQ := Lib.hid (below_up B6.out B6.out.size HQ.out)
            by_cases hqm : q < m0
            · have q1 : (q : Int) < (m0 : Int) := by omega
              have q0 : (0 : Int) ≤ (q : Int) := by omega
              obtain ⟨x, hx⟩ : ∃ x, (D.cutL l0)[q]? = some x := ⟨_, List.getElem?_eq_getElem (by rw [← HM.out]; exact hqm)⟩
              have hxm := List.mem_of_getElem? hx
              have CR := Lib.hid (CRD.out _ (HS6.out.on HQ.out) x hxm)
              have CNX := Lib.hid (fun W h => CNW.out W h x hxm)
              obtain ⟨ad, hAe, hal, hrd⟩ := (R6.out.on HQ.out).rd hx
              have hrd := show xS.rd _ (ad.add (q * 35)) = some x from hrd
              have XQ := Lib.hid hrd
              obtain ⟨k_, d_, r_⟩ := xfa hrd
              have hfk := fun (h : D.fkd x T ≠ x.r) => D.fkd_ne h
              obtain ⟨rr, hrr⟩ : ∃ rr, D.fkd x T = rr := ⟨_, rfl⟩
              rw [hrr] at CR hfk
              subst hAe
              clear hx hxm hrd hrr hal
              cases hd : x.d with
              | true =>
                rw [hd] at CR d_
                go_wp2_with (go_at_call 17; (with_reducible refine CR.out.mono ?_); rintro e w7 ⟨rfl, b7⟩; have b8 := Lib.hid (below_up b7 b7.size (below_alloc_ w7 (.cells (rSh.v rr) 53))); have R8 := Shp.rd_new (S := rSh) w7 w7.heap.size 53 rr rfl; have R0 := (Blk.new w7 53 (rSh.v rr)).c 0; rw [show (rSh.v rr)[0]? = some (.int .u8 (rr.k : Nat)) from rfl] at R0; clear b7)
                obtain ⟨w8, hw8⟩ : ∃ w8, w7.alloc (.cells (rSh.v rr) 53) = w8 := ⟨_, rfl⟩
                obtain ⟨g8, hg8⟩ : ∃ g8, w7.heap.size = g8 := ⟨_, rfl⟩
                rw [hw8] at b8 R8 R0
                rw [hg8] at R8 R0
                try rw [hw8]
                try rw [hg8]
                clear hw8 hg8 k_ d_ r_
                obtain ⟨k8, d8, r8⟩ := xfa (Shp.rd_on XQ.out b8.out)
                rw [hd] at d8
                have z1 := Shp.rd_lt R8
                have z2 := Shp.rd_lt k8
                have CX : Hid (∀ o1 : On, Calls Tryz.prog 21 #[.pointer (some ⟨s, 0, none⟩), .agg (kS.v x.k)] (ext w8 o1) fun e w' => e = .returned (.int .u64 (T : Nat)) ∧ Below (ext w8 o1).heap.size (ext w8 o1) w') := Lib.hid fun o1 => CNX.out _ ((HS6.out.on (below_up HQ.out HQ.out.size b8.out)).on (ext_below w8 o1))
                refine wp_region_ext (by kernel_rfl) (by kernel_rfl) ?_
                repeat (go_big_quiet_step ((go_at_call 21; with_reducible exact calls_ext (CX.out _))))
                refine wpQuiet_nil ?_
                intro w9 hw9
                have b9 := ext_to hw9
                clear hw9
                go_wp2
                go_roundw
                case rel => exact ⟨q + 1, by omega, by go_num, Lib.hid (below_up (below_up HQ.out HQ.out.size b8.out) (below_up HQ.out HQ.out.size b8.out).size b9)⟩
                case measure => simp [intOf]; omega
              | false =>
                rw [hd] at CR d_
                go_wp2_with (go_at_call 17; (with_reducible refine CR.out.mono ?_); rintro e w7 ⟨rfl, b7⟩; have b8 := Lib.hid (below_up b7 b7.size (below_alloc_ w7 (.cells (rSh.v rr) 53))); have R8 := Shp.rd_new (S := rSh) w7 w7.heap.size 53 rr rfl; have R0 := (Blk.new w7 53 (rSh.v rr)).c 0; rw [show (rSh.v rr)[0]? = some (.int .u8 (rr.k : Nat)) from rfl] at R0; clear b7)
                obtain ⟨w8, hw8⟩ : ∃ w8, w7.alloc (.cells (rSh.v rr) 53) = w8 := ⟨_, rfl⟩
                obtain ⟨g8, hg8⟩ : ∃ g8, w7.heap.size = g8 := ⟨_, rfl⟩
                rw [hw8] at b8 R8 R0
                rw [hg8] at R8 R0
                try rw [hw8]
                try rw [hg8]
                clear hw8 hg8 k_ d_ r_
                obtain ⟨k8, d8, r8⟩ := xfa (Shp.rd_on XQ.out b8.out)
                rw [hd] at d8
                have z1 := Shp.rd_lt R8
                have z2 := Shp.rd_lt k8
                have CX : Hid (∀ o1 : On, Calls Tryz.prog 21 #[.pointer (some ⟨s, 0, none⟩), .agg (kS.v x.k)] (ext w8 o1) fun e w' => e = .returned (.int .u64 (T : Nat)) ∧ Below (ext w8 o1).heap.size (ext w8 o1) w') := Lib.hid fun o1 => CNX.out _ ((HS6.out.on (below_up HQ.out HQ.out.size b8.out)).on (ext_below w8 o1))
                by_cases hE2 : rr = x.r
                · have t1 : (!decide (rr = x.r)) = false := by simp [hE2]
                  clear hfk hE2
                  refine wp_region_ext (by kernel_rfl) (by kernel_rfl) ?_
                  repeat (go_big_quiet_step ((go_at_call 21; with_reducible exact calls_ext (CX.out _))))
                  refine wpQuiet_nil ?_
                  intro w9 hw9
                  have b9 := ext_to hw9
                  clear hw9
                  go_wp2
                  go_roundw
                  case rel => exact ⟨q + 1, by omega, by go_num, Lib.hid (below_up (below_up HQ.out HQ.out.size b8.out) (below_up HQ.out HQ.out.size b8.out).size b9)⟩
                  case measure => simp [intOf]; omega
                · have t1 : (!decide (rr = x.r)) = true := by simp [hE2]
                  rw [show (rr.k : Nat) = 4 from hfk hE2] at R0
                  clear hfk hE2
                  refine wp_region_ext (by kernel_rfl) (by kernel_rfl) ?_
                  repeat (go_big_quiet_step ((go_at_call 21; with_reducible exact calls_ext (CX.out _))))
                  refine wpQuiet_nil ?_
                  intro w9 hw9
                  have b9 := ext_to hw9
                  clear hw9
                  go_wp2
                  go_roundw
                  case rel => exact ⟨q + 1, by omega, by go_num, Lib.hid (below_up (below_up HQ.out HQ.out.size b8.out) (below_up HQ.out HQ.out.size b8.out).size b9)⟩
                  case measure => simp [intOf]; omega
            · have q1 : ¬ ((q : Int) < (m0 : Int)) := by omega
              have hq2 : q = m0 := by omega
              go_wp2_with (first
                | (go_at_call 10; refine (known_any kr_all _).mono ?_; rintro e w7 ⟨rfl, b7⟩; have D7 := Lib.hid (below_up HQ.out HQ.out.size b7); clear b7)
                | (go_at_call 16; (with_reducible refine (CLB.out _ (HS6.out.on D7.out)).mono ?_); rintro e w8 ⟨rfl, b8⟩; have D8 := Lib.hid (below_up D7.out D7.out.size b8); clear b8)
                | (go_at_call 20; (with_reducible refine (CVB.out _ (HS6.out.on D8.out)).mono ?_); rintro e w9 ⟨rfl, b9⟩; have D9 := Lib.hid (below_up D8.out D8.out.size b9); clear b9))
              go_ret
              exact ⟨rfl, below_up B6.out B6.out.size D9.out⟩
        · have he0 : M.err (D.cutL l0) ≠ 0 := fun h => he (hE.symm.trans h)
          rw [D.Sm.time_no he0, D.Sm.pub_no he0, hE, show ((0 : Nat) : Int) = 0 from rfl] at C1
          have hEI : ¬ ((E : Int) = 0) := by omega
          have C1 := Lib.hid C1
          clear he0 he hE hL hV hl0 hk0 SM0 CC
          refine C1.out.mono ?_
          rintro e w6 ⟨rfl, hS6, f6⟩
          have HS6 := Lib.hid hS6
          have B6 := Lib.hid (Frm.bel f6 B5.out B5.out.size)
          clear hS6 f6 C1
          go_wp2_with (first
            | (go_at_call 10; refine (known_any kr_all _).mono ?_; rintro e w7 ⟨rfl, b7⟩; have D7 := Lib.hid b7; clear b7)
            | (go_at_call 16; (with_reducible refine (CLA.out _ (HS6.out.on D7.out)).mono ?_); rintro e w8 ⟨rfl, b8⟩; have D8 := Lib.hid (below_up D7.out D7.out.size b8); clear b8)
            | (go_at_call 19; (with_reducible refine (CLI.out _ (HS6.out.on D8.out)).mono ?_); rintro e w9 ⟨rfl, b9⟩; have D9 := Lib.hid (below_up D8.out D8.out.size b9); clear b9)
            | (go_at_call 20; (with_reducible refine (CVE.out _ (HS6.out.on D9.out)).mono ?_); rintro e w10 ⟨rfl, b10⟩; have D10 := Lib.hid (below_up D9.out D9.out.size b10); clear b10))
          go_ret
          exact ⟨rfl, below_up B6.out B6.out.size D10.out⟩
    · have j1 : ¬ ((j : Int) < (n : Int)) := by omega
      obtain ⟨SM0, hl0, hk0⟩ := hfin.out
      clear hfin HS
      have CC := Lib.hid (scut_any (c := c0) (H0.out.1.on HB.out) (fun x hx => (H0.out.2.1 x hx).2) H0.out.2.2)
      have HS0 := Lib.hid SM0
      obtain ⟨L, hL⟩ : ∃ L, M.last = L := ⟨_, rfl⟩
      obtain ⟨V, hV⟩ : ∃ V, M.all = V := ⟨_, rfl⟩
      obtain ⟨E, hE⟩ : ∃ E, M.err (D.cutL l0) = E := ⟨_, rfl⟩
      have CLA : Hid (∀ W, SM w.heap.size W s M → Calls Tryz.prog 16 #[.pointer (some ⟨s, 0, none⟩)] W fun e w' => e = .returned (.int .u64 (L : Nat)) ∧ Below W.heap.size W w') := Lib.hid fun W h => by rw [← hL]; exact slast_any (SO.of h)
      have CLI : Hid (∀ W, SM w.heap.size W s M → Calls Tryz.prog 19 #[.pointer (some ⟨s, 0, none⟩)] W fun e w' => e = .returned (.int .i64 (M.live : Nat)) ∧ Below W.heap.size W w') := Lib.hid fun W h => slive_any (SO.of h)
      have CVE : Hid (∀ W, SM w.heap.size W s M → Calls Tryz.prog 20 #[.pointer (some ⟨s, 0, none⟩), .agg (pS.v D.pZ)] W fun e w' => e = .returned (.int .i64 (V : Nat)) ∧ Below W.heap.size W w') := Lib.hid fun W h => by rw [← hV]; exact svers_zero h (by omega) (by omega)
      go_wp2_with (first
        | (go_at_call 9; (with_reducible refine CC.out.mono ?_); rintro e w2 ⟨B0, m0, d0, rfl, ho2, hm2, b2⟩; have HO2 := Lib.hid ho2; have HM := Lib.hid hm2; have HB2 := Lib.hid b2; clear ho2 hm2 b2)
        | (go_at_call 16; (with_reducible refine (CLA.out _ (HS0.out.on HB2.out)).mono ?_); rintro e w3 ⟨rfl, b3⟩; have HO3 := Lib.hid (HO2.out.on b3); have HB3 := Lib.hid (below_up HB2.out HB2.out.size b3); clear b3)
        | (go_at_call 19; (with_reducible refine (CLI.out _ (HS0.out.on HB3.out)).mono ?_); rintro e w4 ⟨rfl, b4⟩; have HO4 := Lib.hid (HO3.out.on b4); have HB4 := Lib.hid (below_up HB3.out HB3.out.size b4); clear b4)
        | (go_at_call 20; (with_reducible refine (CVE.out _ (HS0.out.on HB4.out)).mono ?_); rintro e w5 ⟨rfl, b5⟩; have HO5 := Lib.hid (HO4.out.on b5); have HB5 := Lib.hid (below_up HB4.out HB4.out.size b5); clear b5))
      have C1 := pub_at hR (HS0.out.on HB5.out) hl0 hk0 HO5.out HM.out HW0.out
      have B5 := Lib.hid (below_up HB.out HB.out.size HB5.out)
      by_cases he : E = 0
      · have he0 : M.err (D.cutL l0) = 0 := hE.trans he
        have hT0 := D.Sm.time_yes he0
        obtain ⟨T, hT⟩ : ∃ T, M.last + 1 = T := ⟨_, rfl⟩
        have hTL : (L : Int) + 1 = (T : Int) := by omega
        have hLb : (L : Int) < 990 := by omega
        have hV1 := D.pub_all HS0.out.wf (cutL_wf HW0.out) (by omega) he0
        rw [hT0, hT, he0, show ((0 : Nat) : Int) = 0 from rfl] at C1
        have hlM := D.pub_lst he0
        have hkM := M.pub_len (D.cutL l0)
        have hnw := fun x (hx : x ∈ D.cutL l0) => D.pub_new he0 hx
        have hsn := fun x (hx : x ∈ D.cutL l0) => D.pub_in HS0.out.wf (cutL_wf HW0.out) (by omega) he0 hx
        obtain ⟨M1, hM1⟩ : ∃ M1, M.pub (D.cutL l0) = M1 := ⟨_, rfl⟩
        rw [hM1] at C1 hV1 hlM hkM
        simp only [hM1, hT] at hnw hsn hlM
        have CRD : Hid (∀ W, SM w.heap.size W s M1 → ∀ x ∈ D.cutL l0, Calls Tryz.prog 17 #[.pointer (some ⟨s, 0, none⟩), .agg (kS.v x.k), .int .u64 (T : Nat)] W fun e w' => e = .returned (.tuple #[.agg (rSh.v (D.fkd x T)), .bool (!x.d)]) ∧ Below W.heap.size W w') := Lib.hid fun W h x hx => by
          have := sread_any (SO.of h) (by omega) x.k T
          rwa [hsn x hx] at this
        have CNW : Hid (∀ W, SM w.heap.size W s M1 → ∀ x ∈ D.cutL l0, Calls Tryz.prog 21 #[.pointer (some ⟨s, 0, none⟩), .agg (kS.v x.k)] W fun e w' => e = .returned (.int .u64 (T : Nat)) ∧ Below W.heap.size W w') := Lib.hid fun W h x hx => by
          have := snewest_any (SO.of h) (by omega) x.k
          rwa [hnw x hx] at this
        have CLB : Hid (∀ W, SM w.heap.size W s M1 → Calls Tryz.prog 16 #[.pointer (some ⟨s, 0, none⟩)] W fun e w' => e = .returned (.int .u64 (T : Nat)) ∧ Below W.heap.size W w') := Lib.hid fun W h => by rw [← hlM]; exact slast_any (SO.of h)
        have CVB : Hid (∀ W, SM w.heap.size W s M1 → Calls Tryz.prog 20 #[.pointer (some ⟨s, 0, none⟩), .agg (pS.v D.pZ)] W fun e w' => e = .returned (.int .i64 ((V + m0 : Nat) : Int)) ∧ Below W.heap.size W w') := Lib.hid fun W h => by rw [HM.out, ← hV, ← hV1]; exact svers_zero h (by omega) (by omega)
        obtain ⟨V1, hVm⟩ : ∃ V1, V + m0 = V1 := ⟨_, rfl⟩
        rw [hVm] at CVB
        have hVI : (V : Int) + (m0 : Int) = (V1 : Int) := by omega
        have hm20 : m0 ≤ 20 := by rw [HM.out]; exact cutL_len l0
        have hV20 : V ≤ 1000000 := by rw [← hV]; exact D.Sm.all_bd HS0.out.wf hl0 hk0
        have C1 := Lib.hid C1
        clear hT0 hV1 hlM hkM hnw hsn hM1 he0 hE he hVm hT hl0 hk0 SM0 CLA CLI CVE CC
        refine C1.out.mono ?_
        rintro e w6 ⟨rfl, hS6, f6⟩
        have HS6 := Lib.hid hS6
        have R6 := Lib.hid (ow_srow (S := xS) (Frm.ow f6 HO5.out (by decide)))
        have B6 := Lib.hid (Frm.bel f6 B5.out B5.out.size)
        clear hS6 f6 C1
        go_wp2_with fail
        go_loopw [12] (fun i wq => ∃ q : Nat, q ≤ m0 ∧ i = .int .i64 q ∧ Hid (Below w6.heap.size w6 wq)) (fun i _ => m0 - (intOf i).toNat)
        case atStart => exact ⟨0, Nat.zero_le _, rfl, Lib.hid (Below.refl _ _)⟩
        case round =>
          obtain ⟨q, hq, rfl, HQ⟩ := hrel
          have BQ := Lib.hid (below_up B6.out B6.out.size HQ.out)
          by_cases hqm : q < m0
          · have q1 : (q : Int) < (m0 : Int) := by omega
            have q0 : (0 : Int) ≤ (q : Int) := by omega
            obtain ⟨x, hx⟩ : ∃ x, (D.cutL l0)[q]? = some x := ⟨_, List.getElem?_eq_getElem (by rw [← HM.out]; exact hqm)⟩
            have hxm := List.mem_of_getElem? hx
            have CR := Lib.hid (CRD.out _ (HS6.out.on HQ.out) x hxm)
            have CNX := Lib.hid (fun W h => CNW.out W h x hxm)
            obtain ⟨ad, hAe, hal, hrd⟩ := (R6.out.on HQ.out).rd hx
            have hrd := show xS.rd _ (ad.add (q * 35)) = some x from hrd
            have XQ := Lib.hid hrd
            obtain ⟨k_, d_, r_⟩ := xfa hrd
            have hfk := fun (h : D.fkd x T ≠ x.r) => D.fkd_ne h
            obtain ⟨rr, hrr⟩ : ∃ rr, D.fkd x T = rr := ⟨_, rfl⟩
            rw [hrr] at CR hfk
            subst hAe
            clear hx hxm hrd hrr hal
            cases hd : x.d with
            | true =>
              rw [hd] at CR d_
              go_wp2_with (go_at_call 17; (with_reducible refine CR.out.mono ?_); rintro e w7 ⟨rfl, b7⟩; have b8 := Lib.hid (below_up b7 b7.size (below_alloc_ w7 (.cells (rSh.v rr) 53))); have R8 := Shp.rd_new (S := rSh) w7 w7.heap.size 53 rr rfl; have R0 := (Blk.new w7 53 (rSh.v rr)).c 0; rw [show (rSh.v rr)[0]? = some (.int .u8 (rr.k : Nat)) from rfl] at R0; clear b7)
              obtain ⟨w8, hw8⟩ : ∃ w8, w7.alloc (.cells (rSh.v rr) 53) = w8 := ⟨_, rfl⟩
              obtain ⟨g8, hg8⟩ : ∃ g8, w7.heap.size = g8 := ⟨_, rfl⟩
              rw [hw8] at b8 R8 R0
              rw [hg8] at R8 R0
              try rw [hw8]
              try rw [hg8]
              clear hw8 hg8 k_ d_ r_
              obtain ⟨k8, d8, r8⟩ := xfa (Shp.rd_on XQ.out b8.out)
              rw [hd] at d8
              have z1 := Shp.rd_lt R8
              have z2 := Shp.rd_lt k8
              have CX : Hid (∀ o1 : On, Calls Tryz.prog 21 #[.pointer (some ⟨s, 0, none⟩), .agg (kS.v x.k)] (ext w8 o1) fun e w' => e = .returned (.int .u64 (T : Nat)) ∧ Below (ext w8 o1).heap.size (ext w8 o1) w') := Lib.hid fun o1 => CNX.out _ ((HS6.out.on (below_up HQ.out HQ.out.size b8.out)).on (ext_below w8 o1))
              refine wp_region_ext (by kernel_rfl) (by kernel_rfl) ?_
              repeat (go_big_quiet_step ((go_at_call 21; with_reducible exact calls_ext (CX.out _))))
              refine wpQuiet_nil ?_
              intro w9 hw9
              have b9 := ext_to hw9
              clear hw9
              go_wp2
              go_roundw
              case rel => exact ⟨q + 1, by omega, by go_num, Lib.hid (below_up (below_up HQ.out HQ.out.size b8.out) (below_up HQ.out HQ.out.size b8.out).size b9)⟩
              case measure => simp [intOf]; omega
            | false =>
              rw [hd] at CR d_
              go_wp2_with (go_at_call 17; (with_reducible refine CR.out.mono ?_); rintro e w7 ⟨rfl, b7⟩; have b8 := Lib.hid (below_up b7 b7.size (below_alloc_ w7 (.cells (rSh.v rr) 53))); have R8 := Shp.rd_new (S := rSh) w7 w7.heap.size 53 rr rfl; have R0 := (Blk.new w7 53 (rSh.v rr)).c 0; rw [show (rSh.v rr)[0]? = some (.int .u8 (rr.k : Nat)) from rfl] at R0; clear b7)
              obtain ⟨w8, hw8⟩ : ∃ w8, w7.alloc (.cells (rSh.v rr) 53) = w8 := ⟨_, rfl⟩
              obtain ⟨g8, hg8⟩ : ∃ g8, w7.heap.size = g8 := ⟨_, rfl⟩
              rw [hw8] at b8 R8 R0
              rw [hg8] at R8 R0
              try rw [hw8]
              try rw [hg8]
              clear hw8 hg8 k_ d_ r_
              obtain ⟨k8, d8, r8⟩ := xfa (Shp.rd_on XQ.out b8.out)
              rw [hd] at d8
              have z1 := Shp.rd_lt R8
              have z2 := Shp.rd_lt k8
              have CX : Hid (∀ o1 : On, Calls Tryz.prog 21 #[.pointer (some ⟨s, 0, none⟩), .agg (kS.v x.k)] (ext w8 o1) fun e w' => e = .returned (.int .u64 (T : Nat)) ∧ Below (ext w8 o1).heap.size (ext w8 o1) w') := Lib.hid fun o1 => CNX.out _ ((HS6.out.on (below_up HQ.out HQ.out.size b8.out)).on (ext_below w8 o1))
              by_cases hE2 : rr = x.r
              · have t1 : (!decide (rr = x.r)) = false := by simp [hE2]
                clear hfk hE2
                refine wp_region_ext (by kernel_rfl) (by kernel_rfl) ?_
                repeat (go_big_quiet_step ((go_at_call 21; with_reducible exact calls_ext (CX.out _))))
                refine wpQuiet_nil ?_
                intro w9 hw9
                have b9 := ext_to hw9
                clear hw9
                go_wp2
                go_roundw
                case rel => exact ⟨q + 1, by omega, by go_num, Lib.hid (below_up (below_up HQ.out HQ.out.size b8.out) (below_up HQ.out HQ.out.size b8.out).size b9)⟩
                case measure => simp [intOf]; omega
              · have t1 : (!decide (rr = x.r)) = true := by simp [hE2]
                rw [show (rr.k : Nat) = 4 from hfk hE2] at R0
                clear hfk hE2
                refine wp_region_ext (by kernel_rfl) (by kernel_rfl) ?_
                repeat (go_big_quiet_step ((go_at_call 21; with_reducible exact calls_ext (CX.out _))))
                refine wpQuiet_nil ?_
                intro w9 hw9
                have b9 := ext_to hw9
                clear hw9
                go_wp2
                go_roundw
                case rel => exact ⟨q + 1, by omega, by go_num, Lib.hid (below_up (below_up HQ.out HQ.out.size b8.out) (below_up HQ.out HQ.out.size b8.out).size b9)⟩
                case measure => simp [intOf]; omega
          · have q1 : ¬ ((q : Int) < (m0 : Int)) := by omega
            have hq2 : q = m0 := by omega
            go_wp2_with (first
              | (go_at_call 10; refine (known_any kr_all _).mono ?_; rintro e w7 ⟨rfl, b7⟩; have D7 := Lib.hid (below_up HQ.out HQ.out.size b7); clear b7)
              | (go_at_call 16; (with_reducible refine (CLB.out _ (HS6.out.on D7.out)).mono ?_); rintro e w8 ⟨rfl, b8⟩; have D8 := Lib.hid (below_up D7.out D7.out.size b8); clear b8)
              | (go_at_call 20; (with_reducible refine (CVB.out _ (HS6.out.on D8.out)).mono ?_); rintro e w9 ⟨rfl, b9⟩; have D9 := Lib.hid (below_up D8.out D8.out.size b9); clear b9))
            go_ret
            exact ⟨rfl, below_up B6.out B6.out.size D9.out⟩
      · have he0 : M.err (D.cutL l0) ≠ 0 := fun h => he (hE.symm.trans h)
        rw [D.Sm.time_no he0, D.Sm.pub_no he0, hE, show ((0 : Nat) : Int) = 0 from rfl] at C1
        have hEI : ¬ ((E : Int) = 0) := by omega
        have C1 := Lib.hid C1
        clear he0 he hE hL hV hl0 hk0 SM0 CC
        refine C1.out.mono ?_
        rintro e w6 ⟨rfl, hS6, f6⟩
        have HS6 := Lib.hid hS6
        have B6 := Lib.hid (Frm.bel f6 B5.out B5.out.size)
        clear hS6 f6 C1
        go_wp2_with (first
          | (go_at_call 10; refine (known_any kr_all _).mono ?_; rintro e w7 ⟨rfl, b7⟩; have D7 := Lib.hid b7; clear b7)
          | (go_at_call 16; (with_reducible refine (CLA.out _ (HS6.out.on D7.out)).mono ?_); rintro e w8 ⟨rfl, b8⟩; have D8 := Lib.hid (below_up D7.out D7.out.size b8); clear b8)
          | (go_at_call 19; (with_reducible refine (CLI.out _ (HS6.out.on D8.out)).mono ?_); rintro e w9 ⟨rfl, b9⟩; have D9 := Lib.hid (below_up D8.out D8.out.size b9); clear b9)
          | (go_at_call 20; (with_reducible refine (CVE.out _ (HS6.out.on D9.out)).mono ?_); rintro e w10 ⟨rfl, b10⟩; have D10 := Lib.hid (below_up D9.out D9.out.size b10); clear b10))
        go_ret
        exact ⟨rfl, below_up B6.out B6.out.size D10.out⟩
end Go.Proofs.YteiikacgcfidmaaGreatDoor
