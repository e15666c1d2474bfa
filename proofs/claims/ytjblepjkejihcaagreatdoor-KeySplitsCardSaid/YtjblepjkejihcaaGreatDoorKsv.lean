/-
  Keys in groups: the law's walk.
-/
import Derived.Test.YtjblepjkejihcaaGreatDoorKsg
import Derived.Test.YtjblepjkejihcaaGreatDoorGh
import Derived.BigQuiet
set_option linter.unusedVariables false
set_option linter.unusedSimpArgs false
set_option maxRecDepth 100000
namespace Go.Proofs.YtjblepjkejihcaaGreatDoor
open Go.RowKit
theorem blk_addk (a : Addr) (i : Nat) : (a.add i).block = a.block := block_of_add a i
attribute [local go_sem ↓] Go.wp_at_zero Go.wp_at_succ bsl_k ld_k lv_k st_k eq_k ne_k bd_k ld_b lv_b st_b eq_b ne_b bd_25 ld_r lv_r st_rk eq_rk ne_rk bd_r ld_p lv_p st_px bd_p Nm.ld_a Nm.ld_n Nm.st_a Nm.st_n Nm.eq_a Nm.eq_n Nm.ne_a Nm.ne_n Nm.lv_a Nm.lv_n ld_a ld_n st_a st_n eq_a eq_n ne_a ne_n lv_a lv_n
attribute [local go_sem] blk_addk bdk3 run_bslk run_ldk run_lvk run_stk run_eqk run_nek run_bdk_z run_ldb run_lvb run_stb run_eqb run_neb run_ldr run_lvr run_strk run_eqrk run_nerk run_bdr_z run_ldp run_lvp run_stpx Nm.run_ld_a Nm.run_ld_n Nm.run_st_n Nm.run_eq_a Nm.run_eq_n Nm.run_ne_a Nm.run_ne_n Nm.run_lv_a Nm.run_lv_n Nm.rd_new Nm.rd_old Nm.rd_drew Nm.rd_drewN run_ld_a run_ld_n run_sw_a run_sw_n run_eq_a run_eq_n run_ne_a run_ne_n run_lv_a run_lv_n st_z ne_z eq_z rd_new rd_old rd_drew rd_drewN Shp.rd_new Shp.rd_old Shp.rd_drew Shp.rd_drewN Shp.rd_set Shp.tn_new Shp.tn_old Shp.tn_drew Shp.tn_drewN tn_new tn_old tn_drew tn_drewN rd_set setRow_alloc run_stn3 run_stt15 Shp.rd_extk cell_ext

theorem upto_keys (A : Option Addr) (n c k : Nat) (hk : k ≤ c) : ∀ W, (Instr.slice 63 (.slice A n c) none (some (.int .i64 (k : Int))) none).run Tryz.prog W = .ok (.slice A k c) W := by
  intro W
  have : ∀ a : Addr, a.add 0 = a := add_zero_
  rw [run_slice_h W 63 A n c (by kernel_rfl) .i64 k (by omega) (by omega)]
  simp [Result.andThen, sliced, go_sem]
theorem run_bdp3 (W : World) (x : D.Ky) : (bdp #[(0, .agg (kS.v (D.mkK x.k x.p x.a Nm.D.zero D.zero))), (1, .int .i64 3)]).run Tryz.prog W = .ok (.agg (pS.v (D.px3 x))) W := by
  rw [← D.upto_three]
  exact run_bdp W (D.upto x 3) 3 (by decide)
theorem kcells {w : World} {a : Addr} {x : D.Ky} (h : kS.rd w a = some x) : w.cell? a = some (.int .u8 x.k) ∧ w.cell? (a.add 1) = some (.int .u8 x.p) ∧ w.cell? (a.add 2) = some (.int .u8 x.a) := by
  have hc : kS.At w a x := Shp.at_of h
  have hx := x.len
  have h0 := hc 0 _ (bys_get (l := x.l) (by omega))
  rw [add_zero_] at h0
  exact ⟨h0, hc 1 _ (bys_get (l := x.l) (by omega)), hc 2 _ (bys_get (l := x.l) (by omega))⟩
theorem cell_off {w : World} {a : Addr} {j : Nat} {v : Value} (hj : j ≠ 0) (h : w.cell? (a.add j) = some v) : w.cell? ⟨a.block, a.off + j, none⟩ = some v := by
  rw [← h, Addr.add, if_neg hj]
theorem cell_old2 {w : World} {a : Addr} {v : Value} (h : w.cell? a = some v) (hl : a.block < w.heap.size) (o : Obj) : (w.alloc o).drew.cell? a = some v := (World.cell?_of_block (w := w) (Below.heap_alloc w o _ hl)).trans h

set_option maxHeartbeats 16000000 in
theorem ksplits_all (A : Option Addr) (n c : Nat) (l : List D.Ky) (w : World) (hl0 : kS.Row w A n l) (hnc : n ≤ c) (hcm : c ≤ maxLen) (hE : Env w) : Calls Tryz.prog 8 #[.slice A n c] w fun e w' => e = .returned (.bool true) ∧ Below w.heap.size w w' := by
  obtain ⟨m, hm1, hm2, hmin⟩ := min_run n 30 30 rfl
  have hcut := upto_keys A n c m (by omega)
  have hl := hl0.take hm1
  obtain ⟨L, hL⟩ : ∃ L, l.take m = L := ⟨_, rfl⟩
  rw [hL] at hl
  have hLl : L.length = m := hl.len
  clear hl0 hL
  have CS := Lib.hid (groups_any A m c L w hl (by omega))
  go_enter Tryz.func8, Tryz.ntmps8
  go_wp2_with (go_at_call 29; (with_reducible refine CS.out.mono ?_); rintro e w1 ⟨b, base, rfl, hlo, hG, hb1⟩)
  clear CS hcut hmin
  have hg0 := D.g_zero L
  go_loopw [4, 5, 6] (fun s4 s5 s6 wr => ∃ i : Nat, i ≤ m ∧ s6 = .int .i64 i ∧ s5 = .int .i64 (D.gcount L i : Nat) ∧ s4 = .int .i64 (D.gsum L i : Nat) ∧ GrpAt base wr b (D.grp D.px3 (L.filter D.kright)) ∧ Below w.heap.size w wr) (fun _ _ i _ => m - (intOf i).toNat)
  case atStart => exact ⟨0, Nat.zero_le _, rfl, by rw [hg0.1]; rfl, by rw [hg0.2]; rfl, hG, hb1⟩
  case round =>
    obtain ⟨i, hi, rfl, rfl, rfl, hr, hb⟩ := hrel
    clear hg0
    by_cases hlt : i < m
    · obtain ⟨x, hx⟩ := kat_lt (l := L) (i := i) (by omega)
      obtain ⟨ad, rfl, hadl, hrx⟩ := (hl.on hb).rd hx
      have hrx2 : kS.rd wr (ad.add (i * 25)) = some x := hrx
      have i1 : (i : Int) < (m : Int) := by omega
      have i0 : (0 : Int) ≤ (i : Int) := by omega
      have HR := keyright_any x
      have hbd := D.gcount_le L i (by omega)
      have hsq : i * L.length ≤ 30 * 30 := Nat.mul_le_mul (by omega) (by omega)
      cases hrt : D.kright x
      · rw [hrt] at HR
        have CR := Lib.hid HR
        have HW := D.g_wrong hx hrt
        clear HR hrt
        go_wp2_with (go_at_call 13; (with_reducible refine (CR.out _).mono ?_); rintro e w2 ⟨rfl, b2⟩)
        go_roundw
        case rel => exact ⟨i + 1, by omega, by go_num, by rw [HW.1], by rw [HW.2], hr.on b2, below_up hb hb.size b2⟩
        case measure => simp [intOf]; omega
      · rw [hrt] at HR
        have CR := Lib.hid HR
        have HX := Lib.hid (And.intro hx hrt)
        clear HR hrt hx
        go_wp2_with (go_at_call 13; (with_reducible refine (CR.out _).mono ?_); rintro e w2 ⟨rfl, b2⟩; have hr2 := hr.on b2; have hx2 := Shp.rd_on hrx2 b2; have hz2 := below_up hb hb.size b2)
        clear CR hr hrx hrx2
        have hadl2 : ad.block < w2.heap.size := Nat.lt_of_lt_of_le hadl b2.size
        go_cut [7] from 33 to 107 (fun s7 wx => ∃ k7 : Nat, s7 = .pointer (some ⟨k7, 0, none⟩) ∧ pS.rd wx ⟨k7, 0, none⟩ = some (D.px3 x) ∧ Below w2.heap.size w2 wx)
        case first =>
          obtain ⟨c0, c1, c2⟩ := kcells hx2
          have d0 : w2.drew.cell? (ad.add (i * 25)) = some (.int .u8 x.k) := c0
          have d1 : w2.drew.cell? ⟨ad.block, (ad.add (i * 25)).off + 1, none⟩ = some (.int .u8 x.p) := by have := cell_off (by decide) c1; rwa [blk_addk] at this
          have d2 : w2.drew.cell? ⟨ad.block, (ad.add (i * 25)).off + 2, none⟩ = some (.int .u8 x.a) := by have := cell_off (by decide) c2; rwa [blk_addk] at this
          have e0 := cell_old2 c0 (by rw [blk_addk]; exact hadl2)
          have e1 := cell_old2 (w := w2) d1 hadl2
          have e2 := cell_old2 (w := w2) d2 hadl2
          have hbp := fun W => run_bdp3 W x
          clear c0 c1 c2 HX hx2
          go_region
          go_wp2_with fail
          go_meet
          exact ⟨_, rfl, Shp.rd_set (S := pS) _ _ _ (by rw [Shp.tn_drew]; exact Shp.tn_new 26 _ _ _ _ rfl rfl), below_setRow ((below_alloc_ w2 _).drew) (Nat.le_refl _) _⟩
        case rest =>
          obtain ⟨k7, rfl, hp7, b7⟩ := hcut
          have hr3 := hr2.on b7
          have hz3 := below_up hz2 hz2.size b7
          obtain ⟨A8, n8, c8, hlk, ho8⟩ := hr3.look (D.px3 x)
          rw [D.filter_same3] at ho8
          obtain ⟨q, hq⟩ : ∃ q, D.same3 x = q := ⟨_, rfl⟩
          rw [hq] at ho8
          have hq3 : ∀ y, q y = (D.kright y && D.has (D.px3 x).x (D.px3 x).d y) := fun y => by rw [← hq]; rfl
          have hM : (L.filter q).length = n8 := ho8.len
          have hn8 : n8 ≤ m := by rw [← hM, ← hLl]; exact List.length_filter_le _ _
          clear hr2 hx2 hadl2 hz2
          go_wp2
          clear hlk
          go_loopw [9, 10, 11] (fun s9 s10 s11 wr => ∃ j : Nat, j ≤ m ∧ s11 = .int .i64 j ∧ s9 = .int .i64 (D.upc L q j : Nat) ∧ s10 = .bool (decide (D.upc L q (min j i) = 0)) ∧ pS.rd wr ⟨k7, 0, none⟩ = some (D.px3 x) ∧ Below wc.heap.size wc wr) (fun _ _ j _ => m - (intOf j).toNat)
          case atStart => exact ⟨0, Nat.zero_le _, rfl, by rw [D.upc_zero]; rfl, by simp [D.upc_zero], hp7, Below.refl _ _⟩
          case round =>
            obtain ⟨j, hj, rfl, rfl, rfl, hp, hbj⟩ := hrel
            have hzj := below_up hz3 hz3.size hbj
            have hoj := ho8.on hbj
            clear hp7
            by_cases hjl : j < m
            · obtain ⟨y, hy⟩ := kat_lt (l := L) (i := j) (by omega)
              obtain ⟨ad', e', hadj, hry⟩ := (hl.on hzj).rd hy
              injection e' with e'
              subst e'
              have hry2 : kS.rd wr (ad.add (j * 25)) = some y := hry
              have j1 : (j : Int) < (m : Int) := by omega
              have j0 : (0 : Int) ≤ (j : Int) := by omega
              have hpl := Shp.rd_lt hp
              have hpl2 : k7 < wr.heap.size := hpl
              cases hr : D.kright y
              · have hqy : q y = false := by rw [hq3, hr]; rfl
                have HU := Lib.hid (D.upc_no hy hqy)
                have HF : D.upc L q (min (j + 1) i) = D.upc L q (min j i) := by
                  by_cases hij : i ≤ j
                  · rw [Nat.min_eq_right hij, Nat.min_eq_right (by omega)]
                  · rw [Nat.min_eq_left (by omega), Nat.min_eq_left (by omega), HU.out]
                have HFh := Lib.hid HF
                have CR := Lib.hid (fun W => (show Calls Tryz.prog 13 #[.agg (kS.v y)] W fun e w' => e = .returned (.bool false) ∧ Below W.heap.size W w' from by have := keyright_any y W; rwa [hr] at this))
                clear hr hqy hy hry HF
                go_wp2_with fail
                refine wp_region_ext (by kernel_rfl) (by kernel_rfl) ?_
                repeat (go_big_quiet_step (first | (go_at_call 13; with_reducible exact calls_ext (CR.out _))))
                refine wpQuiet_nil ?_
                intro w4 hw4
                have b4 := ext_to hw4
                clear hw4
                go_wp2
                go_roundw
                case rel => exact ⟨j + 1, by omega, by go_num, by rw [HU.out], by rw [HFh.out], Shp.rd_on hp b4, below_up hbj hbj.size b4⟩
                case measure => simp [intOf]; omega
              · have CR := Lib.hid (fun W => (show Calls Tryz.prog 13 #[.agg (kS.v y)] W fun e w' => e = .returned (.bool true) ∧ Below W.heap.size W w' from by have := keyright_any y W; rwa [hr] at this))
                cases hh : D.has (D.px3 x).x (D.px3 x).d y
                · have hqy : q y = false := by rw [hq3, hr, hh]; rfl
                  have HU := Lib.hid (D.upc_no hy hqy)
                  have HF : D.upc L q (min (j + 1) i) = D.upc L q (min j i) := by
                    by_cases hij : i ≤ j
                    · rw [Nat.min_eq_right hij, Nat.min_eq_right (by omega)]
                    · rw [Nat.min_eq_left (by omega), Nat.min_eq_left (by omega), HU.out]
                  have HFh := Lib.hid HF
                  have CH := Lib.hid (fun W => (show Calls Tryz.prog 26 #[.agg (pS.v (D.px3 x)), .agg (kS.v y)] W fun e w' => e = .returned (.bool false) ∧ Below W.heap.size W w' from by have := has_any (D.px3 x) y W; rwa [hh] at this))
                  clear hr hqy hy hry HF hh
                  go_wp2_with fail
                  refine wp_region_ext (by kernel_rfl) (by kernel_rfl) ?_
                  repeat (go_big_quiet_step (first | (go_at_call 13; with_reducible exact calls_ext (CR.out _)) | (go_at_call 26; with_reducible exact calls_ext (CH.out _))))
                  refine wpQuiet_nil ?_
                  intro w4 hw4
                  have b4 := ext_to hw4
                  clear hw4
                  go_wp2
                  go_roundw
                  case rel => exact ⟨j + 1, by omega, by go_num, by rw [HU.out], by rw [HFh.out], Shp.rd_on hp b4, below_up hbj hbj.size b4⟩
                  case measure => simp [intOf]; omega
                · have hqy : q y = true := by rw [hq3, hr, hh]; rfl
                  have HU := Lib.hid (D.upc_yes hy hqy)
                  have HA := D.upc_at hy hqy
                  have HL8 : D.upc L q j < n8 := by
                    have := (List.getElem?_eq_some_iff.1 HA).1
                    omega
                  obtain ⟨f, hf⟩ : ∃ f, decide (D.upc L q (min j i) = 0) = f := ⟨_, rfl⟩
                  have HF : decide (D.upc L q (min (j + 1) i) = 0) = (f && decide (i ≤ j)) := by
                    rw [← hf]
                    by_cases hij : i ≤ j
                    · rw [Nat.min_eq_right hij, Nat.min_eq_right (by omega)]; simp [hij]
                    · rw [Nat.min_eq_left (by omega), HU.out]; simp [hij]
                  have HFh := Lib.hid HF
                  rw [hf]
                  obtain ⟨u, hu⟩ : ∃ u, D.upc L q j = u := ⟨_, rfl⟩
                  have HU2 := HU.out
                  rw [hu] at HU2 HA HL8
                  have HUh := Lib.hid HU2
                  rw [hu]
                  obtain ⟨ad8, rfl, had8, hr8⟩ := hoj.to_row.rd HA
                  have hr82 : kS.rd wr (ad8.add (u * 25)) = some y := hr8
                  have CH := Lib.hid (fun W => (show Calls Tryz.prog 26 #[.agg (pS.v (D.px3 x)), .agg (kS.v y)] W fun e w' => e = .returned (.bool true) ∧ Below W.heap.size W w' from by have := has_any (D.px3 x) y W; rwa [hh] at this))
                  have u0 : (0 : Int) ≤ (u : Int) := by omega
                  have u1 : (u : Int) < (n8 : Int) := by omega
                  have u2 : decide ((n8 : Int) ≤ (u : Int)) = false := decide_eq_false (by omega)
                  have u3 : decide (n8 ≤ u) = false := decide_eq_false (by omega)
                  have hsm : kS.sm y y = true := by simp [Shp.sm]
                  clear hr hqy hy hry HF hh HU HU2 hu hf HA hr8
                  go_wp2_with fail
                  refine wp_region_ext (by kernel_rfl) (by kernel_rfl) ?_
                  repeat (go_big_quiet_step (first | (go_at_call 13; with_reducible exact calls_ext (CR.out _)) | (go_at_call 26; with_reducible exact calls_ext (CH.out _))))
                  refine wpQuiet_nil ?_
                  intro w4 hw4
                  have b4 := ext_to hw4
                  clear hw4
                  have p4 := Shp.rd_on hp b4
                  have y4 := Shp.rd_on hry2 b4
                  have l4 := Shp.rd_on hr82 b4
                  have h4a : ad.block < w4.heap.size := Nat.lt_of_lt_of_le hadj b4.size
                  have h4b : ad8.block < w4.heap.size := Nat.lt_of_lt_of_le had8 b4.size
                  have z4 := below_up hbj hbj.size b4
                  clear hp hry2 hr82
                  go_wp2_with fail
                  refine wp_region_ext (by kernel_rfl) (by kernel_rfl) ?_
                  repeat (go_big_quiet_step (fail))
                  refine wpQuiet_nil ?_
                  intro w5 hw5
                  have b5 := ext_to hw5
                  clear hw5
                  have p5 := Shp.rd_on p4 b5
                  have z5 := below_up z4 z4.size b5
                  clear b4 b5 p4 y4 l4 z4
                  cases f
                  · go_wp2
                    go_roundw
                    case rel => exact ⟨j + 1, by omega, by go_num, by rw [HUh.out]; go_num, by rw [HFh.out]; rfl, p5, z5⟩
                    case measure => simp [intOf]; omega
                  · go_wp2
                    go_roundw
                    case rel => exact ⟨j + 1, by omega, by go_num, by rw [HUh.out]; go_num, by rw [HFh.out]; simp, p5, z5⟩
                    case measure => simp [intOf]; omega
            · have e : j = m := by omega
              subst e
              have hup : D.upc L q j = n8 := by rw [D.upc_end (by omega), hM]
              obtain ⟨f, hf⟩ : ∃ f, decide (D.upc L q (min j i) = 0) = f := ⟨_, rfl⟩
              rw [Nat.min_eq_right (by omega)] at hf
              rw [Nat.min_eq_right (by omega), hf, hup]
              have b1' : (0 : Int) ≤ (D.gcount L i : Int) := by omega
              obtain ⟨G0, hG0⟩ : ∃ G0, D.gcount L i = G0 := ⟨_, rfl⟩
              obtain ⟨S0, hS0⟩ : ∃ S0, D.gsum L i = S0 := ⟨_, rfl⟩
              rw [hG0, hS0] at hbd
              rw [hG0, hS0]
              have hz : S0 ≤ 900 := by omega
              cases f
              · have HG := Lib.hid (D.g_old HX.out.1 HX.out.2 (by rw [hq]; exact of_decide_eq_false hf))
                clear hf hup
                go_wp2
                go_roundw
                case rel => exact ⟨i + 1, by omega, by go_num, by rw [HG.out.1, hG0], by rw [HG.out.2, hS0], hr3.on hbj, hzj⟩
                case measure => simp [intOf]; omega
              · have HG := Lib.hid (D.g_new HX.out.1 HX.out.2 (by rw [hq]; exact of_decide_eq_true hf))
                clear hf hup
                go_wp2
                go_roundw
                case rel => exact ⟨i + 1, by omega, by go_num, by rw [HG.out.1, hG0]; go_num, by rw [HG.out.2, hS0, hq, hM]; go_num, hr3.on hbj, hzj⟩
                case measure => simp [intOf]; omega
    · have e : i = m := by omega
      subst e
      have i1 : (L.length : Int) ≤ (i : Int) := by omega
      have HE := D.g_end (l := L) (n := i) (by omega)
      rw [HE.1, HE.2]
      obtain ⟨G, hGG⟩ : ∃ G, D.grp D.px3 (L.filter D.kright) = G := ⟨_, rfl⟩
      obtain ⟨R, hR⟩ : ∃ R, (L.filter D.kright).length = R := ⟨_, rfl⟩
      rw [hGG] at hr
      rw [hGG, hR]
      clear HE hG
      go_wp2
      go_loopw [12, 13] (fun s12 s13 w3 => ∃ k : Nat, k ≤ i ∧ s13 = .int .i64 k ∧ s12 = .int .i64 (D.upc L D.kright k : Nat) ∧ Below wr.heap.size wr w3) (fun _ k _ => i - (intOf k).toNat)
      case atStart => exact ⟨0, Nat.zero_le _, rfl, by rw [D.upc_zero]; rfl, Below.refl _ _⟩
      case round =>
        obtain ⟨k, hk, rfl, rfl, hbk⟩ := hrel
        have hzk := below_up hb hb.size hbk
        by_cases hkl : k < i
        · obtain ⟨y, hy⟩ := kat_lt (l := L) (i := k) (by omega)
          obtain ⟨ad, rfl, hadk, hry⟩ := (hl.on hzk).rd hy
          have hry2 : kS.rd wr (ad.add (k * 25)) = some y := hry
          have k1 : (k : Int) < (i : Int) := by omega
          have k0 : (0 : Int) ≤ (k : Int) := by omega
          have hul := D.upc_le L D.kright k
          cases hr2 : D.kright y
          · have HU := Lib.hid (D.upc_no hy hr2)
            have CR := Lib.hid (fun W => (show Calls Tryz.prog 13 #[.agg (kS.v y)] W fun e w' => e = .returned (.bool false) ∧ Below W.heap.size W w' from by have := keyright_any y W; rwa [hr2] at this))
            clear hr2 hy hry
            go_wp2_with (go_at_call 13; (with_reducible refine (CR.out _).mono ?_); rintro e w4 ⟨rfl, b4⟩)
            go_roundw
            case rel => exact ⟨k + 1, by omega, by go_num, by rw [HU.out], below_up hbk hbk.size b4⟩
            case measure => simp [intOf]; omega
          · have HU := Lib.hid (D.upc_yes hy hr2)
            have CR := Lib.hid (fun W => (show Calls Tryz.prog 13 #[.agg (kS.v y)] W fun e w' => e = .returned (.bool true) ∧ Below W.heap.size W w' from by have := keyright_any y W; rwa [hr2] at this))
            obtain ⟨u, hu⟩ : ∃ u, D.upc L D.kright k = u := ⟨_, rfl⟩
            have HU2 := HU.out
            rw [hu] at HU2 hul
            have HUh := Lib.hid HU2
            rw [hu]
            clear hr2 hy hry HU HU2 hu
            go_wp2_with (go_at_call 13; (with_reducible refine (CR.out _).mono ?_); rintro e w4 ⟨rfl, b4⟩)
            go_roundw
            case rel => exact ⟨k + 1, by omega, by go_num, by rw [HUh.out]; go_num, below_up hbk hbk.size b4⟩
            case measure => simp [intOf]; omega
        · have e : k = i := by omega
          subst e
          have hue : D.upc L D.kright k = R := by rw [D.upc_end (by omega), hR]
          rw [hue]
          have k1 : (k : Int) ≤ (k : Int) := Int.le_refl _
          have hrk := hr.on hbk
          have CK := Lib.hid (kknown_any _ (hE.on hzk))
          clear hue hR hGG
          go_wp2_with (go_at_call 12; (with_reducible refine (CK.out).mono ?_); rintro e w5 ⟨rfl, b5⟩; have hlen := fun ty => (hrk.on b5).len ty)
          go_ret
          exact ⟨by simp, below_up hzk hzk.size b5⟩
end Go.Proofs.YtjblepjkejihcaaGreatDoor
