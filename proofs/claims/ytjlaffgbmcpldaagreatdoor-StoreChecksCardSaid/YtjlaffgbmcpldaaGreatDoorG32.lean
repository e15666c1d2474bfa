/-
  
-/
import Derived.Test.YtjlaffgbmcpldaaGreatDoorG31
import Derived.Test.YtjlaffgbmcpldaaGreatDoorG28
import Derived.Test.YtjlaffgbmcpldaaGreatDoorG20
import Derived.Shelf.Strings.Builder1
import Derived.Shelf.Strings.Builder2
import Derived.Shelf.Strings.OnBuilder
import Derived.Shelf.Small.Utf8
import Derived.Shelf.Small.Bits
import Derived.Shelf.Strconv.Itoa0
import Derived.Shelf.Strings.Search1
import Derived.Shelf.Strings.Search2
import Derived.Shelf.Strings.Search3
import Derived.Shelf.Strings.Count
import Derived.Shelf.LaysM
import Derived.Shelf.Strings.Shaped
import Derived.Shelf.Strings.Split
import Derived.Shelf.Unicode.Latin
import Derived.Shelf.Unicode.DecodeSlow
import Derived.Shelf.Unicode.CaseLookup
import Derived.Shelf.Unicode.CaseConvert
import Derived.Shelf.Unicode.CaseTo
import Derived.Shelf.Unicode.CaseLaid
import Derived.Shelf.Bytes.SlIndexSmall
import Derived.Shelf.Bytes.SlIndexAt
import Derived.Shelf.Bytes.SlSearch0
import Derived.Shelf.Bytes.SlSearch1
import Derived.Shelf.Bytes.SlSearch2
import Derived.Shelf.Bytes.SlIndexWhole
import Derived.Shelf.Bytes.SlCut
import Derived.Shelf.Bytes.Small
import Derived.Shelf.Bytes.IndexByte
import Derived.Test.YtjlaffgbmcpldaaGreatDoorProg
set_option linter.unusedVariables false
set_option linter.unusedSimpArgs false
set_option maxRecDepth 100000
namespace Go.Proofs.YtjlaffgbmcpldaaGreatDoor
open Go.RowKit
attribute [local go_sem ↓] Go.wp_at_zero Go.wp_at_succ ld_k lv_k st_k eq_k ne_k bd_k ld_b lv_b st_b eq_b ne_b bd_25 ld_r lv_r st_rk eq_rk ne_rk bd_r ld_p lv_p st_px bd_p Nm.ld_a Nm.ld_n Nm.st_a Nm.st_n Nm.eq_a Nm.eq_n Nm.ne_a Nm.ne_n Nm.lv_a Nm.lv_n ld_a ld_n st_a st_n eq_a eq_n ne_a ne_n lv_a lv_n ld_l lv_l st_l bd_l bd_n bs_k ld_v lv_v st_v ne_v bd_v bs_v ld_rh ld_d lv_rh lv_d st_r st_d ne_rh eq_rh ne_d bd_rh bd_d ld_x lv_x st_x bd_x bs_x ld_e lv_e st_e bd_e bs_e ne_e
attribute [local go_sem] run_ldk run_lvk run_stk run_eqk run_nek run_bdk_z run_ldb run_lvb run_stb run_eqb run_neb run_ldr run_lvr run_strk run_eqrk run_nerk run_bdr_z run_ldp run_lvp run_stpx Nm.run_ld_a Nm.run_ld_n Nm.run_st_n Nm.run_eq_a Nm.run_eq_n Nm.run_ne_a Nm.run_ne_n Nm.run_lv_a Nm.run_lv_n Nm.rd_new Nm.rd_old Nm.rd_drew Nm.rd_drewN run_ld_a run_ld_n run_sw_a run_sw_n run_eq_a run_eq_n run_ne_a run_ne_n run_lv_a run_lv_n st_z ne_z eq_z rd_new rd_old rd_drew rd_drewN Shp.rd_new Shp.rd_old Shp.rd_drew Shp.rd_drewN Shp.rd_set Shp.tn_new Shp.tn_old Shp.tn_drew Shp.tn_drewN tn_new tn_old tn_drew tn_drewN rd_set setRow_alloc run_stn3 run_stt15 run_lvl run_ldl run_stl run_bdl run_bdn run_bdn0 run_bsk Shp.rd_extk cell_ext run_ldv run_lvv run_stv run_nev run_bdv_z run_bdv_d run_bdv_r run_bsv1 run_bsv0 run_ldrh run_ldd run_lvrh run_lvd run_str run_std run_nerh run_eqrh run_ned run_bdr0 run_bdd0 run_bdr1 run_bdd1 run_bdd9 run_ldx run_lvx run_stx run_lde run_lve run_bde run_bse1 run_bdv_3 Shp.rd_extk cell_ext
attribute [local go_sem ↓] ld_y lv_y st_y bd_y bs_y
attribute [local go_sem] run_ldy run_lvy run_sty_ run_bdy run_bsy1
set_option maxHeartbeats 4000000 in
theorem wofs_any (hL : LOt) {w : World} {A : Option Addr} {n c : Nat} {l : List D.Wt} (hr : Shp.Row xS w A n l) (hw : ∀ x ∈ l, x.r.wf) (hn : n ≤ 1000) : Calls Tryz.prog 12 #[.slice A n c] w fun e w' => ∃ B d, e = .returned (.slice B n d) ∧ Ow 71 35 w.heap.size w' B n d (yS.rcs l) ∧ Below w.heap.size w w' := by
 have hlen : Kept (l.length = n) := ⟨hr.len⟩
 have HR := Lib.hid hr
 have HW := Lib.hid hw
 have HL := Lib.hid hL
 clear hr hw hL
 go_enter Tryz.func12, Tryz.ntmps12
 go_wp2_with fail
 go_loopw [3, 4] (fun s i wr => ∃ (j : Nat) (B : Option Addr) (d : Nat), j ≤ n ∧ i = .int .i64 j ∧ s = .slice B j d ∧ Hid (Ow 71 35 w.heap.size wr B j d (yS.rcs (l.take j))) ∧ Hid (Below w.heap.size w wr)) (fun _ i _ => n - (intOf i).toNat)
 case atStart => exact ⟨0, none, 0, Nat.zero_le _, rfl, rfl, Lib.hid (Ow.nil _ 35 (Nat.le_refl _)), Lib.hid (Below.refl _ _)⟩
 case round =>
  obtain ⟨j, B, d, hj, rfl, rfl, HO, HB⟩ := hrel
  by_cases hlt : j < n
  ·have j1 : (j : Int) < (n : Int) := by omega
   have j0 : (0 : Int) ≤ (j : Int) := by omega
   obtain ⟨x, hx⟩ : ∃ x, l[j]? = some x := ⟨_, List.getElem?_eq_getElem (by rw [hlen.out]; exact hlt)⟩
   obtain ⟨ad, hAe, hal, hrd⟩ := (HR.out.on HB.out).rd hx
   have hrd : xS.rd wr (ad.add (j * 35)) = some x := hrd
   subst hAe
   have hwx := Lib.hid (HW.out x (List.mem_of_getElem? hx))
   have hT := Lib.hid (show l.take (j + 1) = l.take j ++ [x] from stk_next hx)
   clear hx
   go_wp2_with (first
    | (go_at_call 15; (with_reducible refine (wof_any HL.out x _ hwx.out).mono ?_); rintro e w1 ⟨rfl, b1⟩; have HO1 := Lib.hid (HO.out.on b1); have HB1 := Lib.hid (below_up HB.out HB.out.size b1); clear b1)
    | (at_builtin; refine gapp _ ywr_under ywr_info rfl (by decide) (by decide) rfl (.tmp 11) (.tmp 17) rfl rfl (HO1.out.alloc (.cells (yS.v x) 71)) rfl (rw_shp yS _ x 71 _ (by simp)) (yS.one x) (by omega) ?_; intro A6 c6 w2 ho2 hg2 hat2))
   have hb2 : Below w.heap.size w w2 := (HB1.out.alloc HB1.out.size _).grown hg2 (by simp; have := HB1.out.size; omega) fun k hk => (HO1.out.lt k hk).1
   go_roundw
   case rel => exact ⟨j + 1, A6, c6, by omega, by go_num, rfl, Lib.hid (by rw [hT.out, rcs_snoc]; exact ho2), Lib.hid hb2⟩
   case measure => simp [intOf]; omega
  ·have j1 : ¬ ((j : Int) < (n : Int)) := by omega
   have hjn : j = n := by omega
   subst hjn
   have HT := Lib.hid (show l.take j = l by rw [List.take_of_length_le (by rw [hlen.out]; exact Nat.le_refl _)])
   go_wp2
   go_ret
   exact ⟨B, d, rfl, by have := HO.out; rwa [HT.out] at this, HB.out⟩
end Go.Proofs.YtjlaffgbmcpldaaGreatDoor
set_option linter.unusedVariables false
set_option linter.unusedSimpArgs false
set_option maxRecDepth 100000
namespace Go.Proofs.YtjlaffgbmcpldaaGreatDoor
open Go.RowKit
structure YF (w : World) (g : Nat) (x : D.Wt) : Prop where
 all : yS.rd w ⟨g, 0, none⟩ = some x
 k : rS.rd w ⟨g, 0, none⟩ = some (D.toR x.k)
 d : w.cell? ⟨g, 25, none⟩ = some (.bool x.d)
 r : dS.rd w ⟨g, 26, none⟩ = some x.r
 rk : w.cell? ⟨g, 26, none⟩ = some (.int .i64 (x.r.k : Nat))
 kk : w.cell? ⟨g, 0, none⟩ = some (.int .i64 (x.k.k : Nat))
theorem YF.of {w : World} {g : Nat} {x : D.Wt} (h : yS.rd w ⟨g, 0, none⟩ = some x) : YF w g x := by
 obtain ⟨h1, h2, h3⟩ := yfa h
 have h2' : w.cell? ⟨g, 25, none⟩ = some (.bool x.d) := by simpa using h2
 have h3' : dS.rd w ⟨g, 26, none⟩ = some x.r := by simpa using h3
 have c1 : dS.At w ⟨g, 26, none⟩ x.r := Shp.at_of h3'
 have c2 : rS.At w ⟨g, 0, none⟩ (D.toR x.k) := Shp.at_of h1
 exact ⟨h, h1, h2', h3', c1 0 _ rfl, c2 0 _ rfl⟩
theorem YF.on {w w' : World} {g : Nat} {x : D.Wt} (h : YF w g x) (hb : Below w.heap.size w w') : YF w' g x := .of (Shp.rd_on h.all hb)
def RRt : Prop := ∀ (x : D.Rk) (w : World), Calls Tryz.prog 45 #[.agg (rS.v x)] w fun e w' => e = .returned (.bool (D.rright x)) ∧ Below w.heap.size w w'
theorem wwg_no {x : D.Wt} (h : D.kright x.k = false) : D.wwg x = 3 := by unfold D.wwg; rw [if_pos (.inl h)]
theorem wwg_dead {x : D.Wt} (hd : x.d = true) (hr : x.r ≠ D.zRc) : D.wwg x = 3 := by unfold D.wwg; rw [if_pos (.inr ⟨hd, hr⟩)]
theorem wwg_fine {x : D.Wt} (hk : D.kright x.k = true) (hd : x.d = true) (hr : x.r = D.zRc) : D.wwg x = 0 := by unfold D.wwg; rw [if_neg (by simp [hk, hr]), if_pos hd]
theorem wwg_chk {x : D.Wt} (hk : D.kright x.k = true) (hd : x.d = false) (hc : D.chk x.r ≠ 0) : D.wwg x = D.chk x.r := by unfold D.wwg; rw [if_neg (by simp [hk, hd]), if_neg (by simp [hd]), if_pos hc]
theorem wwg_kind {x : D.Wt} (hk : D.kright x.k = true) (hd : x.d = false) (hc : D.chk x.r = 0) (hr : x.r.k ≠ x.k.k) : D.wwg x = 16 := by unfold D.wwg; rw [if_neg (by simp [hk, hd]), if_neg (by simp [hd]), if_neg (by simp [hc]), if_pos hr]
theorem wwg_good {x : D.Wt} (hk : D.kright x.k = true) (hd : x.d = false) (hc : D.chk x.r = 0) (hr : x.r.k = x.k.k) : D.wwg x = 0 := by unfold D.wwg; rw [if_neg (by simp [hk, hd]), if_neg (by simp [hd]), if_neg (by simp [hc]), if_neg (by simp [hr])]
theorem rsm_to (x y : D.Ky) : rS.sm (D.toR x) (D.toR y) = decide (x = y) := by
 rw [rS_sm]
 by_cases h : x = y
 ·subst h; simp
 ·rw [decide_eq_false h, decide_eq_false (fun e => h (D.toR_inj e))]
attribute [local go_sem ↓] Go.wp_at_zero Go.wp_at_succ ld_k lv_k st_k eq_k ne_k bd_k ld_b lv_b st_b eq_b ne_b bd_25 ld_r lv_r st_rk eq_rk ne_rk bd_r ld_p lv_p st_px bd_p Nm.ld_a Nm.ld_n Nm.st_a Nm.st_n Nm.eq_a Nm.eq_n Nm.ne_a Nm.ne_n Nm.lv_a Nm.lv_n ld_a ld_n st_a st_n eq_a eq_n ne_a ne_n lv_a lv_n ld_l lv_l st_l bd_l bd_n bs_k ld_v lv_v st_v ne_v bd_v bs_v ld_rh ld_d lv_rh lv_d st_r st_d ne_rh eq_rh ne_d bd_rh bd_d ld_x lv_x st_x bd_x bs_x ld_e lv_e st_e bd_e bs_e ne_e
attribute [local go_sem] run_ldk run_lvk run_stk run_eqk run_nek run_bdk_z run_ldb run_lvb run_stb run_eqb run_neb run_ldr run_lvr run_strk run_eqrk run_nerk run_bdr_z run_ldp run_lvp run_stpx Nm.run_ld_a Nm.run_ld_n Nm.run_st_n Nm.run_eq_a Nm.run_eq_n Nm.run_ne_a Nm.run_ne_n Nm.run_lv_a Nm.run_lv_n Nm.rd_new Nm.rd_old Nm.rd_drew Nm.rd_drewN run_ld_a run_ld_n run_sw_a run_sw_n run_eq_a run_eq_n run_ne_a run_ne_n run_lv_a run_lv_n st_z ne_z eq_z rd_new rd_old rd_drew rd_drewN Shp.rd_new Shp.rd_old Shp.rd_drew Shp.rd_drewN Shp.rd_set Shp.tn_new Shp.tn_old Shp.tn_drew Shp.tn_drewN tn_new tn_old tn_drew tn_drewN rd_set setRow_alloc run_stn3 run_stt15 run_lvl run_ldl run_stl run_bdl run_bdn run_bdn0 run_bsk Shp.rd_extk cell_ext run_ldv run_lvv run_stv run_nev run_bdv_z run_bdv_d run_bdv_r run_bsv1 run_bsv0 run_ldrh run_ldd run_lvrh run_lvd run_str run_std run_nerh run_eqrh run_ned run_bdr0 run_bdd0 run_bdr1 run_bdd1 run_bdd9 run_ldx run_lvx run_stx run_lde run_lve run_bde run_bse1 run_bdv_3 Shp.rd_extk cell_ext
attribute [local go_sem ↓] ld_y lv_y st_y bd_y bs_y
attribute [local go_sem] run_ldy run_lvy run_sty_ run_bdy run_bsy1 Shp.rd_extk cell_ext rsm_to
set_option maxHeartbeats 16000000 in
theorem wcheck_any (hR : RRt) {w : World} {A : Option Addr} {n c : Nat} {l : List D.Wt} (hr : Shp.Row yS w A n l) (hn : n ≤ 1000) : Calls Tryz.prog 11 #[.slice A n c] w fun e w' => e = .returned (.int .i64 (D.sck l : Nat)) ∧ Below w.heap.size w w' := by
 have hlen := hr.len
 have hn63 : n ≤ 9223372036854775807 := by omega
 by_cases h0 : n = 0
 ·have e : D.sck l = 1 := by unfold D.sck; rw [if_pos (by omega)]
  rw [e]
  subst h0
  clear hr e
  go_enter Tryz.func11, Tryz.ntmps11
  go_wp2
  go_ret
  exact ⟨rfl, Below.refl _ _⟩
 ·have i0 : ¬ ((n : Int) = 0) := by omega
  by_cases h16 : 16 < n
  ·have e : D.sck l = 2 := by unfold D.sck; rw [if_neg (by omega), if_pos (by omega)]
   rw [e]
   have i1 : (16 : Int) < (n : Int) := by omega
   clear hr e
   go_enter Tryz.func11, Tryz.ntmps11
   go_wp2
   go_ret
   exact ⟨rfl, Below.refl _ _⟩
  ·have e : D.sck l = D.wck [] l := by unfold D.sck; rw [if_neg (by omega), if_neg (by omega)]
   rw [e]
   have i1 : ¬ ((16 : Int) < (n : Int)) := by omega
   have HL := Lib.hid hlen
   have HR := Lib.hid hr
   have HRt := Lib.hid hR
   clear hlen hr e hR
   go_enter Tryz.func11, Tryz.ntmps11
   go_wp2
   go_loopw [3] (fun i wr => ∃ j : Nat, j ≤ n ∧ i = .int .i64 j ∧ Hid (Below w.heap.size w wr) ∧ Kept (D.wck [] l = D.wck ((l.take j).map (·.k)) (l.drop j))) (fun i _ => n - (intOf i).toNat)
   case atStart => exact ⟨0, Nat.zero_le _, rfl, Lib.hid (Below.refl _ _), ⟨by simp⟩⟩
   case round =>
    obtain ⟨j, hj, rfl, HB, HE⟩ := hrel
    by_cases hlt : j < n
    ·obtain ⟨x, hx⟩ : ∃ x, l[j]? = some x := ⟨_, List.getElem?_eq_getElem (by rw [HL.out]; exact hlt)⟩
     obtain ⟨ad, hAe, hal, hrd⟩ := (HR.out.on HB.out).rd hx
     have hrd : yS.rd wr (ad.add (j * 35)) = some x := hrd
     have HN := D.wck_next hx ((l.take j).map (·.k))
     have HT := Lib.hid (show (l.take (j + 1)).map (·.k) = (l.take j).map (·.k) ++ [x.k] by rw [stk_next hx]; simp)
     have j1 : (j : Int) < (n : Int) := by omega
     have j0 : (0 : Int) ≤ (j : Int) := by omega
     have HA := Lib.hid hAe
     have F1 := Lib.hid (YF.of (Shp.rd_new (S := yS) wr wr.heap.size 71 x rfl))
     have f1 := F1.out.k
     have bx := Lib.hid (below_alloc_ wr (.cells (yS.v x) 71))
     have CR := Lib.hid (fun W => (show Calls Tryz.prog 45 #[.agg (rS.v (D.toR x.k))] W fun e w' => e = .returned (.bool (D.kright x.k)) ∧ Below W.heap.size W w' from by have := HRt.out (D.toR x.k) W; rwa [D.rright_to] at this))
     have CC := Lib.hid (fun W => rcheck_any x.r W)
     obtain ⟨w1, hw1⟩ : ∃ w1, wr.alloc (.cells (yS.v x) 71) = w1 := ⟨_, rfl⟩
     obtain ⟨g1, hg1⟩ : ∃ g1, wr.heap.size = g1 := ⟨_, rfl⟩
     rw [hw1] at F1 f1 bx
     rw [hg1] at F1 f1
     have HEx := Lib.hid HE.out
     rw [HN] at HEx
     clear HN hx
     subst hAe
     cases hk : D.kright x.k with
     | false =>
      have hq := wwg_no hk
      have HX : Kept (D.wck [] l = 3) := ⟨by rw [HEx.out, if_pos (by rw [hq]; decide), hq]⟩
      rw [hk] at CR
      clear hq hk CC HEx
      go_wp2_with fail
      try rw [hw1]
      try rw [hg1]
      clear hw1 hg1 hrd
      go_wp2_with (go_at_call 45; (with_reducible refine (CR.out _).mono ?_); rintro e w2 ⟨rfl, b2⟩; have F2 := Lib.hid (F1.out.on b2); have B2 := Lib.hid (below_up bx.out bx.out.size b2); have c2 := F2.out.d; have c3 := F2.out.r; clear b2)
      go_ret
      exact ⟨by rw [HX.out]; rfl, below_up HB.out HB.out.size B2.out⟩
     | true =>
      rw [hk] at CR
      cases hd : x.d with
      | true =>
       by_cases hr : x.r = D.zRc
       ·have hq := wwg_fine hk hd hr
        have hde : decide (x.r = D.zRc) = true := decide_eq_true hr
        clear hr hk CC
        go_wp2_with fail
        try rw [hw1]
        try rw [hg1]
        clear hw1 hg1 hrd
        go_wp2_with (go_at_call 45; (with_reducible refine (CR.out _).mono ?_); rintro e w2 ⟨rfl, b2⟩; have F2 := Lib.hid (F1.out.on b2); have B2 := Lib.hid (below_up bx.out bx.out.size b2); have c2 := F2.out.d; have c3 := F2.out.r; rw [hd] at c2; have B12 := Lib.hid b2; clear b2)
        go_loopw [6] (fun i wz => ∃ z : Nat, z ≤ j ∧ i = .int .i64 z ∧ Hid (Below w1.heap.size w1 wz) ∧ Kept (x.k ∉ (l.take z).map (·.k))) (fun i _ => j - (intOf i).toNat)
        case atStart => exact ⟨0, Nat.zero_le _, rfl, Lib.hid (B12.out), ⟨by simp⟩⟩
        case round =>
         obtain ⟨z, hz, rfl, HZ, HNI⟩ := hrel
         have FZ := F1.out.on HZ.out
         have kz := FZ.k
         have HBZ := Lib.hid (below_up HB.out HB.out.size (below_up bx.out bx.out.size HZ.out))
         by_cases hzj : z < j
         ·have q1 : (z : Int) < (j : Int) := by omega
          have q0 : (0 : Int) ≤ (z : Int) := by omega
          have q2 : (z : Int) < (n : Int) := by omega
          obtain ⟨y, hy⟩ : ∃ y, l[z]? = some y := ⟨_, List.getElem?_eq_getElem (by rw [HL.out]; omega)⟩
          obtain ⟨a2, hA2, hal2, hrd2⟩ := (HR.out.on HBZ.out).rd hy
          injection hA2 with hA2
          subst hA2
          have hrd2 : yS.rd _ (ad.add (z * 35)) = some y := hrd2
          have ky := (yfa hrd2).1
          have z1 := Shp.rd_lt kz
          have z2 := Shp.rd_lt ky
          have HTz := Lib.hid (show (l.take (z + 1)).map (·.k) = (l.take z).map (·.k) ++ [y.k] by rw [stk_next hy]; simp)
          have hyin : Hid (y.k ∈ (l.take j).map (·.k)) := Lib.hid (by
           refine List.mem_map.2 ⟨y, ?_, rfl⟩
           exact List.mem_iff_getElem?.2 ⟨z, by rw [List.getElem?_take, if_pos hzj]; exact hy⟩)
          clear FZ hy hrd2 hal2
          by_cases hyx : y.k = x.k
          ·have e1 : decide (y.k = x.k) = true := decide_eq_true hyx
           have HX : Kept (D.wck [] l = 8) := ⟨by rw [HEx.out, if_neg (by simp [hq]), if_pos (by rw [← hyx]; exact hyin.out)]⟩
           clear hyx
           go_wp2_with fail
           refine wp_region_ext (by kernel_rfl) (by kernel_rfl) ?_
           repeat (go_big_quiet_step (fail))
           refine wpQuiet_nil ?_
           intro w9 hw9
           have b9 := ext_to hw9
           clear hw9
           go_wp2
           go_ret
           exact ⟨by rw [HX.out]; rfl, below_up HBZ.out HBZ.out.size b9⟩
          ·have e1 : decide (y.k = x.k) = false := decide_eq_false hyx
           have HNI2 : Kept (x.k ∉ (l.take (z + 1)).map (·.k)) := ⟨by
            rw [HTz.out]
            intro h
            rcases List.mem_append.1 h with h | h
            ·exact HNI.out h
            ·exact hyx (List.mem_singleton.1 h).symm⟩
           clear hyx
           go_wp2_with fail
           refine wp_region_ext (by kernel_rfl) (by kernel_rfl) ?_
           repeat (go_big_quiet_step (fail))
           refine wpQuiet_nil ?_
           intro w9 hw9
           have b9 := ext_to hw9
           clear hw9
           go_wp2
           go_roundw
           case rel => exact ⟨z + 1, by omega, by go_num, Lib.hid (below_up HZ.out HZ.out.size b9), HNI2⟩
           case measure => simp [intOf]; omega
         ·have q1 : ¬ ((z : Int) < (j : Int)) := by omega
          have hzj2 : z = j := by omega
          have HNJ := HNI.out
          rw [hzj2] at HNJ
          have HX : Kept (D.wck [] l = D.wck ((l.take (j + 1)).map (·.k)) (l.drop (j + 1))) := ⟨by rw [HEx.out, if_neg (by simp [hq]), if_neg HNJ, HT.out]⟩
          clear FZ kz hzj2 HNJ HNI
          go_wp2
          go_roundw
          case rel => exact ⟨j + 1, by omega, by go_num, HBZ, HX⟩
          case measure => simp [intOf]; omega
       ·have hq := wwg_dead hd hr
        have hde : decide (x.r = D.zRc) = false := decide_eq_false hr
        have HX : Kept (D.wck [] l = 3) := ⟨by rw [HEx.out, if_pos (by rw [hq]; decide), hq]⟩
        clear hr hk CC hq HEx
        go_wp2_with fail
        try rw [hw1]
        try rw [hg1]
        clear hw1 hg1 hrd
        go_wp2_with (go_at_call 45; (with_reducible refine (CR.out _).mono ?_); rintro e w2 ⟨rfl, b2⟩; have F2 := Lib.hid (F1.out.on b2); have B2 := Lib.hid (below_up bx.out bx.out.size b2); have c2 := F2.out.d; have c3 := F2.out.r; rw [hd] at c2; clear b2)
        go_ret
        exact ⟨by rw [HX.out]; rfl, below_up HB.out HB.out.size B2.out⟩
      | false =>
       by_cases hc : D.chk x.r = 0
       ·by_cases hkk : x.r.k = x.k.k
        ·have hq := wwg_good hk hd hc hkk
         have hi : ((x.r.k : Int) == (x.k.k : Int)) = true := by simp [hkk]
         have hi2 : ((x.r.k : Int) != (x.k.k : Int)) = false := by simp [hkk]
         rw [hc] at CC
         clear hk hc hkk
         go_wp2_with fail
         try rw [hw1]
         try rw [hg1]
         clear hw1 hg1 hrd
         go_wp2_with (first
          | (go_at_call 45; (with_reducible refine (CR.out _).mono ?_); rintro e w2 ⟨rfl, b2⟩; have F2 := Lib.hid (F1.out.on b2); have B2 := Lib.hid (below_up bx.out bx.out.size b2); have c2 := F2.out.d; have c3 := F2.out.r; rw [hd] at c2; have B12 := Lib.hid b2; clear b2)
          | (go_at_call 46; (with_reducible refine (CC.out _).mono ?_); rintro e w3 ⟨rfl, b3⟩; have F3 := Lib.hid (F2.out.on b3); have B3 := Lib.hid (below_up B2.out B2.out.size b3); have c4 := F3.out.rk; have c5 := F3.out.kk; have B13 := Lib.hid (below_up B12.out B12.out.size b3); clear b3))
         go_loopw [6] (fun i wz => ∃ z : Nat, z ≤ j ∧ i = .int .i64 z ∧ Hid (Below w1.heap.size w1 wz) ∧ Kept (x.k ∉ (l.take z).map (·.k))) (fun i _ => j - (intOf i).toNat)
         case atStart => exact ⟨0, Nat.zero_le _, rfl, Lib.hid (B13.out), ⟨by simp⟩⟩
         case round =>
          obtain ⟨z, hz, rfl, HZ, HNI⟩ := hrel
          have FZ := F1.out.on HZ.out
          have kz := FZ.k
          have HBZ := Lib.hid (below_up HB.out HB.out.size (below_up bx.out bx.out.size HZ.out))
          by_cases hzj : z < j
          ·have q1 : (z : Int) < (j : Int) := by omega
           have q0 : (0 : Int) ≤ (z : Int) := by omega
           have q2 : (z : Int) < (n : Int) := by omega
           obtain ⟨y, hy⟩ : ∃ y, l[z]? = some y := ⟨_, List.getElem?_eq_getElem (by rw [HL.out]; omega)⟩
           obtain ⟨a2, hA2, hal2, hrd2⟩ := (HR.out.on HBZ.out).rd hy
           injection hA2 with hA2
           subst hA2
           have hrd2 : yS.rd _ (ad.add (z * 35)) = some y := hrd2
           have ky := (yfa hrd2).1
           have z1 := Shp.rd_lt kz
           have z2 := Shp.rd_lt ky
           have HTz := Lib.hid (show (l.take (z + 1)).map (·.k) = (l.take z).map (·.k) ++ [y.k] by rw [stk_next hy]; simp)
           have hyin : Hid (y.k ∈ (l.take j).map (·.k)) := Lib.hid (by
            refine List.mem_map.2 ⟨y, ?_, rfl⟩
            exact List.mem_iff_getElem?.2 ⟨z, by rw [List.getElem?_take, if_pos hzj]; exact hy⟩)
           clear FZ hy hrd2 hal2
           by_cases hyx : y.k = x.k
           ·have e1 : decide (y.k = x.k) = true := decide_eq_true hyx
            have HX : Kept (D.wck [] l = 8) := ⟨by rw [HEx.out, if_neg (by simp [hq]), if_pos (by rw [← hyx]; exact hyin.out)]⟩
            clear hyx
            go_wp2_with fail
            refine wp_region_ext (by kernel_rfl) (by kernel_rfl) ?_
            repeat (go_big_quiet_step (fail))
            refine wpQuiet_nil ?_
            intro w9 hw9
            have b9 := ext_to hw9
            clear hw9
            go_wp2
            go_ret
            exact ⟨by rw [HX.out]; rfl, below_up HBZ.out HBZ.out.size b9⟩
           ·have e1 : decide (y.k = x.k) = false := decide_eq_false hyx
            have HNI2 : Kept (x.k ∉ (l.take (z + 1)).map (·.k)) := ⟨by
             rw [HTz.out]
             intro h
             rcases List.mem_append.1 h with h | h
             ·exact HNI.out h
             ·exact hyx (List.mem_singleton.1 h).symm⟩
            clear hyx
            go_wp2_with fail
            refine wp_region_ext (by kernel_rfl) (by kernel_rfl) ?_
            repeat (go_big_quiet_step (fail))
            refine wpQuiet_nil ?_
            intro w9 hw9
            have b9 := ext_to hw9
            clear hw9
            go_wp2
            go_roundw
            case rel => exact ⟨z + 1, by omega, by go_num, Lib.hid (below_up HZ.out HZ.out.size b9), HNI2⟩
            case measure => simp [intOf]; omega
          ·have q1 : ¬ ((z : Int) < (j : Int)) := by omega
           have hzj2 : z = j := by omega
           have HNJ := HNI.out
           rw [hzj2] at HNJ
           have HX : Kept (D.wck [] l = D.wck ((l.take (j + 1)).map (·.k)) (l.drop (j + 1))) := ⟨by rw [HEx.out, if_neg (by simp [hq]), if_neg HNJ, HT.out]⟩
           clear FZ kz hzj2 HNJ HNI
           go_wp2
           go_roundw
           case rel => exact ⟨j + 1, by omega, by go_num, HBZ, HX⟩
           case measure => simp [intOf]; omega
        ·have hq := wwg_kind hk hd hc hkk
         have hi : ((x.r.k : Int) == (x.k.k : Int)) = false := by simp; omega
         have hi2 : ((x.r.k : Int) != (x.k.k : Int)) = true := by simp; omega
         have HX : Kept (D.wck [] l = 16) := ⟨by rw [HEx.out, if_pos (by rw [hq]; decide), hq]⟩
         rw [hc] at CC
         clear hk hc hkk hq HEx
         go_wp2_with fail
         try rw [hw1]
         try rw [hg1]
         clear hw1 hg1 hrd
         go_wp2_with (first
          | (go_at_call 45; (with_reducible refine (CR.out _).mono ?_); rintro e w2 ⟨rfl, b2⟩; have F2 := Lib.hid (F1.out.on b2); have B2 := Lib.hid (below_up bx.out bx.out.size b2); have c2 := F2.out.d; have c3 := F2.out.r; rw [hd] at c2; clear b2)
          | (go_at_call 46; (with_reducible refine (CC.out _).mono ?_); rintro e w3 ⟨rfl, b3⟩; have F3 := Lib.hid (F2.out.on b3); have B3 := Lib.hid (below_up B2.out B2.out.size b3); have c4 := F3.out.rk; have c5 := F3.out.kk; clear b3))
         go_ret
         exact ⟨by rw [HX.out]; rfl, below_up HB.out HB.out.size B3.out⟩
       ·have hq := wwg_chk hk hd hc
        obtain ⟨ch, hch⟩ : ∃ ch, D.chk x.r = ch := ⟨_, rfl⟩
        rw [hch] at hc CC hq
        have hci : ((ch : Int) == 0) = false := by simp; omega
        have hci2 : ¬ ((ch : Int) = 0) := by omega
        have HX : Kept (D.wck [] l = ch) := ⟨by rw [HEx.out, if_pos (by rw [hq]; exact hc), hq]⟩
        clear hk hc hq HEx hch
        go_wp2_with fail
        try rw [hw1]
        try rw [hg1]
        clear hw1 hg1 hrd
        go_wp2_with (first
         | (go_at_call 45; (with_reducible refine (CR.out _).mono ?_); rintro e w2 ⟨rfl, b2⟩; have F2 := Lib.hid (F1.out.on b2); have B2 := Lib.hid (below_up bx.out bx.out.size b2); have c2 := F2.out.d; have c3 := F2.out.r; rw [hd] at c2; clear b2)
         | (go_at_call 46; (with_reducible refine (CC.out _).mono ?_); rintro e w3 ⟨rfl, b3⟩; have F3 := Lib.hid (F2.out.on b3); have B3 := Lib.hid (below_up B2.out B2.out.size b3); have c4 := F3.out.rk; have c5 := F3.out.kk; clear b3))
        go_ret
        exact ⟨by rw [HX.out]; rfl, below_up HB.out HB.out.size B3.out⟩
    ·obtain rfl : n = j := by omega
     have HX : Kept (D.wck [] l = 0) := ⟨by rw [HE.out, ← HL.out, List.drop_length]; rfl⟩
     go_wp2
     go_ret
     exact ⟨by rw [HX.out]; rfl, HB.out⟩
end Go.Proofs.YtjlaffgbmcpldaaGreatDoor
namespace Go.Proofs.YtjlaffgbmcpldaaGreatDoor
open Go.Shelf Go.RowKit
def lays158_ren : Go.Shelf.Ren := ⟨fun | 158 => 198 | 165 => 210 | 166 => 211 | 167 => 212 | 169 => 213 | 230 => 214 | 203 => 216 | 240 => 228 | 241 => 229 | 197 => 230 | 118 => 231 | 168 => 232 | 270 => 233 | 262 => 234 | 276 => 240 | 277 => 241 | 260 => 242 | 242 => 243 | 313 => 244 | 278 => 248 | 274 => 249 | 275 => 250 | n => n, fun | 9 => 9 | 4 => 4 | 3 => 3 | 5 => 5 | 72 => 336 | 0 => 0 | 76 => 340 | 75 => 339 | 107 => 344 | 70 => 334 | 20 => 20 | 37 => 210 | 127 => 274 | 21 => 21 | 105 => 349 | 164 => 357 | 162 => 363 | 203 => 361 | 119 => 364 | 46 => 196 | 139 => 367 | 138 => 366 | 51 => 73 | 160 => 368 | 208 => 375 | 206 => 373 | 80 => 307 | n => n, fun | 13 => 2 | 3 => 3 | 4 => 4 | n => n⟩
theorem lays158 : Go.Proofs.Lays.n158 Tryz.prog lays158_ren := {
 mixed := by kernel_rfl
 f118 := Tryz.func231.trans (congrArg some (by kernel_rfl))
 f158 := Tryz.func198.trans (congrArg some (by kernel_rfl))
 f165 := Tryz.func210.trans (congrArg some (by kernel_rfl))
 f166 := Tryz.func211.trans (congrArg some (by kernel_rfl))
 f167 := Tryz.func212.trans (congrArg some (by kernel_rfl))
 f168 := Tryz.func232.trans (congrArg some (by kernel_rfl))
 f169 := Tryz.func213.trans (congrArg some (by kernel_rfl))
 f197 := Tryz.func230.trans (congrArg some (by kernel_rfl))
 f203 := Tryz.func216.trans (congrArg some (by kernel_rfl))
 f230 := Tryz.func214.trans (congrArg some (by kernel_rfl))
 f240 := Tryz.func228.trans (congrArg some (by kernel_rfl))
 f241 := Tryz.func229.trans (congrArg some (by kernel_rfl))
 f242 := Tryz.func243.trans (congrArg some (by kernel_rfl))
 f260 := Tryz.func242.trans (congrArg some (by kernel_rfl))
 f262 := Tryz.func234.trans (congrArg some (by kernel_rfl))
 f270 := Tryz.func233.trans (congrArg some (by kernel_rfl))
 f274 := Tryz.func249.trans (congrArg some (by kernel_rfl))
 f275 := Tryz.func250.trans (congrArg some (by kernel_rfl))
 f276 := Tryz.func240.trans (congrArg some (by kernel_rfl))
 f277 := Tryz.func241.trans (congrArg some (by kernel_rfl))
 f278 := Tryz.func248.trans (congrArg some (by kernel_rfl))
 f313 := Tryz.func244.trans (congrArg some (by kernel_rfl))
 t0 := Tryz.underlying0
 a0 := Tryz.isAgg0
 z0 := Tryz.sizeOf0
 v0 := Tryz.zeroValue0
 t3 := Tryz.underlying3
 a3 := Tryz.isAgg3
 z3 := Tryz.sizeOf3
 v3 := Tryz.zeroValue3
 t4 := Tryz.underlying4
 a4 := Tryz.isAgg4
 z4 := Tryz.sizeOf4
 v4 := Tryz.zeroValue4
 t5 := Tryz.underlying5
 a5 := Tryz.isAgg5
 z5 := Tryz.sizeOf5
 v5 := Tryz.zeroValue5
 t9 := Tryz.underlying9
 a9 := Tryz.isAgg9
 z9 := Tryz.sizeOf9
 v9 := Tryz.zeroValue9
 t20 := Tryz.underlying20
 a20 := Tryz.isAgg20
 z20 := Tryz.sizeOf20
 v20 := Tryz.zeroValue20
 t21 := Tryz.underlying21
 a21 := Tryz.isAgg21
 z21 := Tryz.sizeOf21
 v21 := Tryz.zeroValue21
 t37 := Tryz.underlying210
 a37 := Tryz.isAgg210
 z37 := Tryz.sizeOf210
 v37 := Tryz.zeroValue210
 t46 := Tryz.underlying196
 a46 := Tryz.isAgg196
 z46 := Tryz.sizeOf196
 v46 := Tryz.zeroValue196
 t51 := Tryz.underlying73
 a51 := Tryz.isAgg73
 z51 := Tryz.sizeOf73
 v51 := Tryz.zeroValue73
 t70 := Tryz.underlying334
 a70 := Tryz.isAgg334
 z70 := Tryz.sizeOf334
 v70 := Tryz.zeroValue334
 t72 := Tryz.underlying336
 a72 := Tryz.isAgg336
 z72 := Tryz.sizeOf336
 v72 := Tryz.zeroValue336
 t75 := Tryz.underlying339
 a75 := Tryz.isAgg339
 z75 := Tryz.sizeOf339
 v75 := Tryz.zeroValue339
 t76 := Tryz.underlying340
 a76 := Tryz.isAgg340
 z76 := Tryz.sizeOf340
 v76 := Tryz.zeroValue340
 t105 := Tryz.underlying349
 a105 := Tryz.isAgg349
 z105 := Tryz.sizeOf349
 v105 := Tryz.zeroValue349
 t107 := Tryz.underlying344
 a107 := Tryz.isAgg344
 z107 := Tryz.sizeOf344
 v107 := Tryz.zeroValue344
 t119 := Tryz.underlying364
 a119 := Tryz.isAgg364
 z119 := Tryz.sizeOf364
 t127 := Tryz.underlying274
 a127 := Tryz.isAgg274
 z127 := Tryz.sizeOf274
 v127 := Tryz.zeroValue274
 t138 := Tryz.underlying366
 a138 := Tryz.isAgg366
 z138 := Tryz.sizeOf366
 v138 := Tryz.zeroValue366
 t139 := Tryz.underlying367
 a139 := Tryz.isAgg367
 z139 := Tryz.sizeOf367
 v139 := Tryz.zeroValue367
 t160 := Tryz.underlying368
 a160 := Tryz.isAgg368
 z160 := Tryz.sizeOf368
 v160 := Tryz.zeroValue368
 t162 := Tryz.underlying363
 a162 := Tryz.isAgg363
 z162 := Tryz.sizeOf363
 v162 := Tryz.zeroValue363
 t164 := Tryz.underlying357
 a164 := Tryz.isAgg357
 z164 := Tryz.sizeOf357
 v164 := Tryz.zeroValue357
 t203 := Tryz.underlying361
 a203 := Tryz.isAgg361
 z203 := Tryz.sizeOf361
 v203 := Tryz.zeroValue361
 t206 := Tryz.underlying373
 a206 := Tryz.isAgg373
 z206 := Tryz.sizeOf373
 v206 := Tryz.zeroValue373
 t208 := Tryz.underlying375
 a208 := Tryz.isAgg375
 z208 := Tryz.sizeOf375
 v208 := Tryz.zeroValue375
 g3 := by kernel_rfl
 g4 := by kernel_rfl
 g13 := by kernel_rfl }
theorem Builder_Extra_158 : Builder.Extra Tryz.prog lays158_ren := {
 sizeBuilder := by kernel_rfl
 liesBuilder := by kernel_rfl
 t5 := Tryz.underlying5
 a5 := Tryz.isAgg5
 z5 := Tryz.sizeOf5
 v5 := Tryz.zeroValue5
 infoByte := by kernel_rfl
 cellsByte := by kernel_rfl
 sizeByte := by kernel_rfl
 neB5 := by decide }
def lays159_ren : Go.Shelf.Ren := ⟨fun | 159 => 196 | 165 => 210 | 166 => 211 | 167 => 212 | 169 => 213 | 230 => 214 | 204 => 215 | 240 => 228 | 241 => 229 | 197 => 230 | 118 => 231 | 168 => 232 | 270 => 233 | 262 => 234 | 276 => 240 | 277 => 241 | 260 => 242 | 242 => 243 | 313 => 244 | 278 => 248 | 274 => 249 | 275 => 250 | n => n, fun | 9 => 9 | 4 => 4 | 3 => 3 | 5 => 5 | 72 => 336 | 0 => 0 | 76 => 340 | 75 => 339 | 107 => 344 | 70 => 334 | 20 => 20 | 37 => 210 | 127 => 274 | 21 => 21 | 105 => 349 | 164 => 357 | 162 => 363 | 203 => 361 | 119 => 364 | 46 => 196 | 139 => 367 | 138 => 366 | 51 => 73 | 160 => 368 | 208 => 375 | 206 => 373 | 80 => 307 | n => n, fun | 13 => 2 | 3 => 3 | 4 => 4 | n => n⟩
theorem lays159 : Go.Proofs.Lays.n159 Tryz.prog lays159_ren := {
 mixed := by kernel_rfl
 f118 := Tryz.func231.trans (congrArg some (by kernel_rfl))
 f159 := Tryz.func196.trans (congrArg some (by kernel_rfl))
 f165 := Tryz.func210.trans (congrArg some (by kernel_rfl))
 f166 := Tryz.func211.trans (congrArg some (by kernel_rfl))
 f167 := Tryz.func212.trans (congrArg some (by kernel_rfl))
 f168 := Tryz.func232.trans (congrArg some (by kernel_rfl))
 f169 := Tryz.func213.trans (congrArg some (by kernel_rfl))
 f197 := Tryz.func230.trans (congrArg some (by kernel_rfl))
 f204 := Tryz.func215.trans (congrArg some (by kernel_rfl))
 f230 := Tryz.func214.trans (congrArg some (by kernel_rfl))
 f240 := Tryz.func228.trans (congrArg some (by kernel_rfl))
 f241 := Tryz.func229.trans (congrArg some (by kernel_rfl))
 f242 := Tryz.func243.trans (congrArg some (by kernel_rfl))
 f260 := Tryz.func242.trans (congrArg some (by kernel_rfl))
 f262 := Tryz.func234.trans (congrArg some (by kernel_rfl))
 f270 := Tryz.func233.trans (congrArg some (by kernel_rfl))
 f274 := Tryz.func249.trans (congrArg some (by kernel_rfl))
 f275 := Tryz.func250.trans (congrArg some (by kernel_rfl))
 f276 := Tryz.func240.trans (congrArg some (by kernel_rfl))
 f277 := Tryz.func241.trans (congrArg some (by kernel_rfl))
 f278 := Tryz.func248.trans (congrArg some (by kernel_rfl))
 f313 := Tryz.func244.trans (congrArg some (by kernel_rfl))
 t0 := Tryz.underlying0
 a0 := Tryz.isAgg0
 z0 := Tryz.sizeOf0
 v0 := Tryz.zeroValue0
 t3 := Tryz.underlying3
 a3 := Tryz.isAgg3
 z3 := Tryz.sizeOf3
 v3 := Tryz.zeroValue3
 t4 := Tryz.underlying4
 a4 := Tryz.isAgg4
 z4 := Tryz.sizeOf4
 v4 := Tryz.zeroValue4
 t5 := Tryz.underlying5
 a5 := Tryz.isAgg5
 z5 := Tryz.sizeOf5
 v5 := Tryz.zeroValue5
 t9 := Tryz.underlying9
 a9 := Tryz.isAgg9
 z9 := Tryz.sizeOf9
 v9 := Tryz.zeroValue9
 t20 := Tryz.underlying20
 a20 := Tryz.isAgg20
 z20 := Tryz.sizeOf20
 v20 := Tryz.zeroValue20
 t21 := Tryz.underlying21
 a21 := Tryz.isAgg21
 z21 := Tryz.sizeOf21
 v21 := Tryz.zeroValue21
 t37 := Tryz.underlying210
 a37 := Tryz.isAgg210
 z37 := Tryz.sizeOf210
 v37 := Tryz.zeroValue210
 t46 := Tryz.underlying196
 a46 := Tryz.isAgg196
 z46 := Tryz.sizeOf196
 v46 := Tryz.zeroValue196
 t51 := Tryz.underlying73
 a51 := Tryz.isAgg73
 z51 := Tryz.sizeOf73
 v51 := Tryz.zeroValue73
 t70 := Tryz.underlying334
 a70 := Tryz.isAgg334
 z70 := Tryz.sizeOf334
 v70 := Tryz.zeroValue334
 t72 := Tryz.underlying336
 a72 := Tryz.isAgg336
 z72 := Tryz.sizeOf336
 v72 := Tryz.zeroValue336
 t75 := Tryz.underlying339
 a75 := Tryz.isAgg339
 z75 := Tryz.sizeOf339
 v75 := Tryz.zeroValue339
 t76 := Tryz.underlying340
 a76 := Tryz.isAgg340
 z76 := Tryz.sizeOf340
 v76 := Tryz.zeroValue340
 t105 := Tryz.underlying349
 a105 := Tryz.isAgg349
 z105 := Tryz.sizeOf349
 v105 := Tryz.zeroValue349
 t107 := Tryz.underlying344
 a107 := Tryz.isAgg344
 z107 := Tryz.sizeOf344
 v107 := Tryz.zeroValue344
 t119 := Tryz.underlying364
 a119 := Tryz.isAgg364
 z119 := Tryz.sizeOf364
 t127 := Tryz.underlying274
 a127 := Tryz.isAgg274
 z127 := Tryz.sizeOf274
 v127 := Tryz.zeroValue274
 t138 := Tryz.underlying366
 a138 := Tryz.isAgg366
 z138 := Tryz.sizeOf366
 v138 := Tryz.zeroValue366
 t139 := Tryz.underlying367
 a139 := Tryz.isAgg367
 z139 := Tryz.sizeOf367
 v139 := Tryz.zeroValue367
 t160 := Tryz.underlying368
 a160 := Tryz.isAgg368
 z160 := Tryz.sizeOf368
 v160 := Tryz.zeroValue368
 t162 := Tryz.underlying363
 a162 := Tryz.isAgg363
 z162 := Tryz.sizeOf363
 v162 := Tryz.zeroValue363
 t164 := Tryz.underlying357
 a164 := Tryz.isAgg357
 z164 := Tryz.sizeOf357
 v164 := Tryz.zeroValue357
 t203 := Tryz.underlying361
 a203 := Tryz.isAgg361
 z203 := Tryz.sizeOf361
 v203 := Tryz.zeroValue361
 t206 := Tryz.underlying373
 a206 := Tryz.isAgg373
 z206 := Tryz.sizeOf373
 v206 := Tryz.zeroValue373
 t208 := Tryz.underlying375
 a208 := Tryz.isAgg375
 z208 := Tryz.sizeOf375
 v208 := Tryz.zeroValue375
 g3 := by kernel_rfl
 g4 := by kernel_rfl
 g13 := by kernel_rfl }
theorem Builder_Extra_159 : Builder.Extra Tryz.prog lays159_ren := {
 sizeBuilder := by kernel_rfl
 liesBuilder := by kernel_rfl
 t5 := Tryz.underlying5
 a5 := Tryz.isAgg5
 z5 := Tryz.sizeOf5
 v5 := Tryz.zeroValue5
 infoByte := by kernel_rfl
 cellsByte := by kernel_rfl
 sizeByte := by kernel_rfl
 neB5 := by decide }
def lays156_ren : Go.Shelf.Ren := ⟨fun | 156 => 200 | 165 => 210 | 166 => 211 | 169 => 213 | 240 => 228 | 241 => 229 | 276 => 240 | 277 => 241 | n => n, fun | 31 => 239 | 9 => 9 | 3 => 3 | 4 => 4 | 0 => 0 | 20 => 20 | 72 => 336 | 76 => 340 | 70 => 334 | 37 => 210 | 75 => 339 | 127 => 274 | 164 => 357 | 5 => 5 | 80 => 307 | n => n, fun | n => n⟩
theorem lays156 : Go.Proofs.Lays.n156 Tryz.prog lays156_ren := {
 mixed := by kernel_rfl
 f156 := Tryz.func200.trans (congrArg some (by kernel_rfl))
 f165 := Tryz.func210.trans (congrArg some (by kernel_rfl))
 f166 := Tryz.func211.trans (congrArg some (by kernel_rfl))
 f169 := Tryz.func213.trans (congrArg some (by kernel_rfl))
 f240 := Tryz.func228.trans (congrArg some (by kernel_rfl))
 f241 := Tryz.func229.trans (congrArg some (by kernel_rfl))
 f276 := Tryz.func240.trans (congrArg some (by kernel_rfl))
 f277 := Tryz.func241.trans (congrArg some (by kernel_rfl))
 t0 := Tryz.underlying0
 a0 := Tryz.isAgg0
 z0 := Tryz.sizeOf0
 v0 := Tryz.zeroValue0
 t3 := Tryz.underlying3
 a3 := Tryz.isAgg3
 z3 := Tryz.sizeOf3
 v3 := Tryz.zeroValue3
 t4 := Tryz.underlying4
 a4 := Tryz.isAgg4
 z4 := Tryz.sizeOf4
 v4 := Tryz.zeroValue4
 t9 := Tryz.underlying9
 a9 := Tryz.isAgg9
 z9 := Tryz.sizeOf9
 v9 := Tryz.zeroValue9
 t20 := Tryz.underlying20
 a20 := Tryz.isAgg20
 z20 := Tryz.sizeOf20
 v20 := Tryz.zeroValue20
 t31 := Tryz.underlying239
 a31 := Tryz.isAgg239
 z31 := Tryz.sizeOf239
 v31 := Tryz.zeroValue239
 t37 := Tryz.underlying210
 a37 := Tryz.isAgg210
 z37 := Tryz.sizeOf210
 v37 := Tryz.zeroValue210
 t70 := Tryz.underlying334
 a70 := Tryz.isAgg334
 z70 := Tryz.sizeOf334
 v70 := Tryz.zeroValue334
 t72 := Tryz.underlying336
 a72 := Tryz.isAgg336
 z72 := Tryz.sizeOf336
 v72 := Tryz.zeroValue336
 t75 := Tryz.underlying339
 a75 := Tryz.isAgg339
 z75 := Tryz.sizeOf339
 v75 := Tryz.zeroValue339
 t76 := Tryz.underlying340
 a76 := Tryz.isAgg340
 z76 := Tryz.sizeOf340
 v76 := Tryz.zeroValue340
 t127 := Tryz.underlying274
 a127 := Tryz.isAgg274
 z127 := Tryz.sizeOf274
 v127 := Tryz.zeroValue274
 t164 := Tryz.underlying357
 a164 := Tryz.isAgg357
 z164 := Tryz.sizeOf357
 v164 := Tryz.zeroValue357 }
theorem Builder_Extra_156 : Builder.Extra Tryz.prog lays156_ren := {
 sizeBuilder := by kernel_rfl
 liesBuilder := by kernel_rfl
 t5 := Tryz.underlying5
 a5 := Tryz.isAgg5
 z5 := Tryz.sizeOf5
 v5 := Tryz.zeroValue5
 infoByte := by kernel_rfl
 cellsByte := by kernel_rfl
 sizeByte := by kernel_rfl
 neB5 := by decide }
def lays147_ren : Go.Shelf.Ren := ⟨fun | 147 => 194 | 221 => 207 | 268 => 225 | 138 => 226 | 143 => 227 | 195 => 237 | 197 => 230 | 218 => 238 | 219 => 239 | 260 => 242 | 217 => 245 | 225 => 246 | 224 => 223 | 267 => 247 | 266 => 251 | 314 => 252 | n => n, fun | 9 => 9 | 3 => 3 | 31 => 239 | 4 => 4 | 0 => 0 | 105 => 349 | 21 => 21 | 5 => 5 | 46 => 196 | 119 => 364 | 139 => 367 | 138 => 366 | 146 => 354 | 51 => 73 | n => n, fun | 1 => 1 | 3 => 3 | 4 => 4 | n => n⟩
theorem lays147 : Go.Proofs.Lays.n147 Tryz.prog lays147_ren := {
 mixed := by kernel_rfl
 f138 := Tryz.func226.trans (congrArg some (by kernel_rfl))
 f143 := Tryz.func227.trans (congrArg some (by kernel_rfl))
 f147 := Tryz.func194.trans (congrArg some (by kernel_rfl))
 f195 := Tryz.func237.trans (congrArg some (by kernel_rfl))
 f197 := Tryz.func230.trans (congrArg some (by kernel_rfl))
 f217 := Tryz.func245.trans (congrArg some (by kernel_rfl))
 f218 := Tryz.func238.trans (congrArg some (by kernel_rfl))
 f219 := Tryz.func239.trans (congrArg some (by kernel_rfl))
 f221 := Tryz.func207.trans (congrArg some (by kernel_rfl))
 f224 := Tryz.func223.trans (congrArg some (by kernel_rfl))
 f225 := Tryz.func246.trans (congrArg some (by kernel_rfl))
 f260 := Tryz.func242.trans (congrArg some (by kernel_rfl))
 f266 := Tryz.func251.trans (congrArg some (by kernel_rfl))
 f267 := Tryz.func247.trans (congrArg some (by kernel_rfl))
 f268 := Tryz.func225.trans (congrArg some (by kernel_rfl))
 f314 := Tryz.func252.trans (congrArg some (by kernel_rfl))
 t0 := Tryz.underlying0
 a0 := Tryz.isAgg0
 z0 := Tryz.sizeOf0
 v0 := Tryz.zeroValue0
 t3 := Tryz.underlying3
 a3 := Tryz.isAgg3
 z3 := Tryz.sizeOf3
 v3 := Tryz.zeroValue3
 t4 := Tryz.underlying4
 a4 := Tryz.isAgg4
 z4 := Tryz.sizeOf4
 v4 := Tryz.zeroValue4
 t5 := Tryz.underlying5
 a5 := Tryz.isAgg5
 z5 := Tryz.sizeOf5
 v5 := Tryz.zeroValue5
 t9 := Tryz.underlying9
 a9 := Tryz.isAgg9
 z9 := Tryz.sizeOf9
 v9 := Tryz.zeroValue9
 t21 := Tryz.underlying21
 a21 := Tryz.isAgg21
 z21 := Tryz.sizeOf21
 v21 := Tryz.zeroValue21
 t31 := Tryz.underlying239
 a31 := Tryz.isAgg239
 z31 := Tryz.sizeOf239
 v31 := Tryz.zeroValue239
 t46 := Tryz.underlying196
 a46 := Tryz.isAgg196
 z46 := Tryz.sizeOf196
 v46 := Tryz.zeroValue196
 t51 := Tryz.underlying73
 a51 := Tryz.isAgg73
 z51 := Tryz.sizeOf73
 v51 := Tryz.zeroValue73
 t105 := Tryz.underlying349
 a105 := Tryz.isAgg349
 z105 := Tryz.sizeOf349
 v105 := Tryz.zeroValue349
 t119 := Tryz.underlying364
 a119 := Tryz.isAgg364
 z119 := Tryz.sizeOf364
 t138 := Tryz.underlying366
 a138 := Tryz.isAgg366
 z138 := Tryz.sizeOf366
 v138 := Tryz.zeroValue366
 t139 := Tryz.underlying367
 a139 := Tryz.isAgg367
 z139 := Tryz.sizeOf367
 v139 := Tryz.zeroValue367
 t146 := Tryz.underlying354
 a146 := Tryz.isAgg354
 z146 := Tryz.sizeOf354
 v146 := Tryz.zeroValue354
 g1 := by kernel_rfl
 g3 := by kernel_rfl
 g4 := by kernel_rfl }
def lays185_ren : Go.Shelf.Ren := ⟨fun | 185 => 206 | 187 => 220 | 115 => 221 | 253 => 222 | 224 => 223 | 254 => 224 | 255 => 235 | 291 => 236 | n => n, fun | 37 => 210 | 3 => 3 | 4 => 4 | 0 => 0 | 5 => 5 | 46 => 196 | 9 => 9 | 146 => 354 | 51 => 73 | n => n, fun | 1 => 1 | n => n⟩
theorem lays185 : Go.Proofs.Lays.n185 Tryz.prog lays185_ren := {
 mixed := by kernel_rfl
 f115 := Tryz.func221.trans (congrArg some (by kernel_rfl))
 f185 := Tryz.func206.trans (congrArg some (by kernel_rfl))
 f187 := Tryz.func220.trans (congrArg some (by kernel_rfl))
 f224 := Tryz.func223.trans (congrArg some (by kernel_rfl))
 f253 := Tryz.func222.trans (congrArg some (by kernel_rfl))
 f254 := Tryz.func224.trans (congrArg some (by kernel_rfl))
 f255 := Tryz.func235.trans (congrArg some (by kernel_rfl))
 f291 := Tryz.func236.trans (congrArg some (by kernel_rfl))
 t0 := Tryz.underlying0
 a0 := Tryz.isAgg0
 z0 := Tryz.sizeOf0
 v0 := Tryz.zeroValue0
 t3 := Tryz.underlying3
 a3 := Tryz.isAgg3
 z3 := Tryz.sizeOf3
 v3 := Tryz.zeroValue3
 t4 := Tryz.underlying4
 a4 := Tryz.isAgg4
 z4 := Tryz.sizeOf4
 v4 := Tryz.zeroValue4
 t5 := Tryz.underlying5
 a5 := Tryz.isAgg5
 z5 := Tryz.sizeOf5
 v5 := Tryz.zeroValue5
 t9 := Tryz.underlying9
 a9 := Tryz.isAgg9
 z9 := Tryz.sizeOf9
 v9 := Tryz.zeroValue9
 t37 := Tryz.underlying210
 a37 := Tryz.isAgg210
 z37 := Tryz.sizeOf210
 v37 := Tryz.zeroValue210
 t46 := Tryz.underlying196
 a46 := Tryz.isAgg196
 z46 := Tryz.sizeOf196
 v46 := Tryz.zeroValue196
 t51 := Tryz.underlying73
 a51 := Tryz.isAgg73
 z51 := Tryz.sizeOf73
 v51 := Tryz.zeroValue73
 t146 := Tryz.underlying354
 a146 := Tryz.isAgg354
 z146 := Tryz.sizeOf354
 v146 := Tryz.zeroValue354
 g1 := by kernel_rfl }
def laysSlT4_ren : Go.Shelf.Ren := ⟨fun | 4 => 193 | 5 => 206 | 6 => 220 | 7 => 221 | 8 => 222 | 9 => 223 | 10 => 224 | 11 => 235 | 12 => 236 | n => n, fun | 22 => 210 | 4 => 4 | 3 => 3 | 0 => 0 | 5 => 5 | 29 => 196 | 9 => 9 | 31 => 354 | 30 => 73 | n => n, fun | 0 => 1 | n => n⟩
theorem laysSlT4 : Go.Proofs.SlLaysT.n4 Tryz.prog laysSlT4_ren := {
 mixed := by kernel_rfl
 f4 := Tryz.func193.trans (congrArg some (by kernel_rfl))
 f5 := Tryz.func206.trans (congrArg some (by kernel_rfl))
 f6 := Tryz.func220.trans (congrArg some (by kernel_rfl))
 f7 := Tryz.func221.trans (congrArg some (by kernel_rfl))
 f8 := Tryz.func222.trans (congrArg some (by kernel_rfl))
 f9 := Tryz.func223.trans (congrArg some (by kernel_rfl))
 f10 := Tryz.func224.trans (congrArg some (by kernel_rfl))
 f11 := Tryz.func235.trans (congrArg some (by kernel_rfl))
 f12 := Tryz.func236.trans (congrArg some (by kernel_rfl))
 t0 := Tryz.underlying0
 a0 := Tryz.isAgg0
 z0 := Tryz.sizeOf0
 v0 := Tryz.zeroValue0
 t3 := Tryz.underlying3
 a3 := Tryz.isAgg3
 z3 := Tryz.sizeOf3
 v3 := Tryz.zeroValue3
 t4 := Tryz.underlying4
 a4 := Tryz.isAgg4
 z4 := Tryz.sizeOf4
 v4 := Tryz.zeroValue4
 t5 := Tryz.underlying5
 a5 := Tryz.isAgg5
 z5 := Tryz.sizeOf5
 v5 := Tryz.zeroValue5
 t9 := Tryz.underlying9
 a9 := Tryz.isAgg9
 z9 := Tryz.sizeOf9
 v9 := Tryz.zeroValue9
 t22 := Tryz.underlying210
 a22 := Tryz.isAgg210
 z22 := Tryz.sizeOf210
 v22 := Tryz.zeroValue210
 t29 := Tryz.underlying196
 a29 := Tryz.isAgg196
 z29 := Tryz.sizeOf196
 v29 := Tryz.zeroValue196
 t30 := Tryz.underlying73
 a30 := Tryz.isAgg73
 z30 := Tryz.sizeOf73
 v30 := Tryz.zeroValue73
 t31 := Tryz.underlying354
 a31 := Tryz.isAgg354
 z31 := Tryz.sizeOf354
 v31 := Tryz.zeroValue354
 g0 := by kernel_rfl }
end Go.Proofs.YtjlaffgbmcpldaaGreatDoor
