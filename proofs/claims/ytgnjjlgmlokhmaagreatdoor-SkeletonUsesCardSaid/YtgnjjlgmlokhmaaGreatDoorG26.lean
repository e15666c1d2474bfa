/-
  
-/
import Derived.Test.YtgnjjlgmlokhmaaGreatDoorG25
set_option linter.unusedVariables false
set_option linter.unusedSimpArgs false
set_option maxRecDepth 100000
namespace Go.Proofs.YtgnjjlgmlokhmaaGreatDoor
open Go.RowKit
attribute [local go_sem ↓] Go.wp_at_zero Go.wp_at_succ Nm.ld_a Nm.ld_n Nm.st_a Nm.st_n Nm.lv_a Nm.lv_n ld_nd lv_nd st_nd bd_nd bs_nd ld_vl lv_vl st_vl
attribute [local go_sem] Nm.run_ld_a Nm.run_ld_n Nm.run_lv_a Nm.run_lv_n Nm.rd_new Nm.rd_old Nm.rd_drew Nm.rd_drewN Nm.st_z run_lvnd run_ldnd run_stnd_new run_bsnd Shp.rd_new Shp.rd_old Shp.rd_drew Shp.rd_drewN run_lvvl run_ldvl run_stvl_new

def D.erO (o : Option (List Nat)) : Int := if o.isSome then 0 else 7
def RnC (x : D.Tg) (g b : Nat) (fn : FuncId) (args : Array Value) (w : World) (o : Option (List Nat)) (m : Nat) : Prop :=
 ∀ W L, Nu b w W -> Rn x g b W L -> L.length + m <= 100000 -> Calls Tryz.prog fn args W fun y w' => y = .returned (.int .i64 (D.erO o)) ∧ (∀ t, o = some t -> Rn x g b w' (L ++ t)) ∧ Nu b W w'
set_option maxHeartbeats 8000000 in
theorem message_row (x : D.Tg) (g b n c sg kk : Nat) (f : Nm.D.Nm -> Option D.Vl) (A : Option Addr) (vs : List (D.Nd × D.Sl)) (w : World) (N : D.Nd -> Option (List Nat)) (hr : RF 15 (fun i => i < b) w A n (nS.rcs (nvs vs))) (hn : n <= 1000) (hbl : b <= w.heap.size) (hsg : sg < 18446744073709551616) (hG : Rg b g kk f w)
  (h0 : ∀ (j : Nat) (y : D.Nd) (p : D.Sl), vs[j]? = some (y, p) -> y.k = 0 -> y.t ≠ [] ∧ (∀ c ∈ y.t, c < 256) ∧ N y = some y.t)
  (h5 : ∀ (j : Nat) (y : D.Nd) (p : D.Sl), vs[j]? = some (y, p) -> y.k = 5 -> N y = some (D.dg sg))
  (hle : ∀ (j : Nat) (y : D.Nd) (p : D.Sl), vs[j]? = some (y, p) -> ∀ a, N y = some a -> a.length <= 20 * (D.prN y).length)
  (hp : ∀ (j : Nat) (y : D.Nd) (p : D.Sl), vs[j]? = some (y, p) -> y.k ≠ 0 -> y.k ≠ 5 -> (f (D.pnm y) = none -> N y = none) ∧ ∀ z, f (D.pnm y) = some z -> RnC x g b 58 #[vr b, .agg (nS.v (nv y p.A p.m p.c)), .agg (vS.v z), .int .u64 (sg : Nat)] w (N y) (20 * (D.prN y).length)) :
  RnC x g b 30 #[vr b, .slice A n c, .int .u64 (sg : Nat)] w (D.rnL N (vs.map (·.1))) (20 * (D.prL (vs.map (·.1))).length) := by
 intro W L hNu hB hsz
 have hlen := hr.row.len
 rw [Shp.rcs_len, nvs_len, show nS.n = 15 from rfl] at hlen
 have hlen : vs.length = n := by omega
 have hLe : ∀ j t, D.rnL N ((vs.map (·.1)).take j) = some t -> t.length <= 20 * (D.prL ((vs.map (·.1)).take j)).length := fun j t ht => D.rnL_le (fun y hy a ha => by
  have hy2 := List.mem_of_mem_take hy
  obtain ⟨⟨y', p⟩, hm, e⟩ := List.mem_map.1 hy2
  have e : y' = y := e
  subst e
  obtain ⟨i, hi, e2⟩ := List.mem_iff_getElem.1 hm
  exact hle i y' p (by rw [List.getElem?_eq_getElem hi, e2]) a ha) t ht
 have HR := Lib.hid hr
 have H0 := Lib.hid h0
 have H5 := Lib.hid h5
 have HLE := Lib.hid hle
 have HLT := Lib.hid hLe
 have HP := Lib.hid hp
 have HB := Lib.hid hB
 have HN := Lib.hid hNu
 have HG := Lib.hid hG
 have HSG := Lib.hid hsg
 have HBL := Lib.hid hbl
 clear hr h0 h5 hle hLe hp hB hNu hG hsg
 go_enter Tryz.func30, Tryz.ntmps30
 go_wp2_with fail
 go_loopw [14] (fun i wr => ∃ (j : Nat) (t : List Nat), j <= n ∧ i = .int .i64 j ∧ Kept (D.rnL N ((vs.map (·.1)).take j) = some t) ∧ Hid (Rn x g b wr (L ++ t)) ∧ Hid (Nu b W wr)) (fun i _ => n - (intOf i).toNat)
 case atStart => exact ⟨0, [], Nat.zero_le _, rfl, ⟨by simp [D.rnL]⟩, Lib.hid (by simpa using HB.out), Lib.hid (Nu.refl _ _)⟩
 case round =>
  obtain ⟨j, t, hj, rfl, HT, HBj, HNj⟩ := hrel
  obtain ⟨wo, rfl⟩ : ∃ wo : World, wo = wr := ⟨_, rfl⟩
  by_cases hlt : j < n
  ·obtain ⟨⟨y, p⟩, ht⟩ : ∃ a, vs[j]? = some a := ⟨_, List.getElem?_eq_getElem (by omega)⟩
   have hx : (vs.map (·.1))[j]? = some y := by simp [ht]
   obtain ⟨ad, rfl, hbk, hrd, hck⟩ := rw_at ((Nu.row (Nu.row HR.out HN.out) HNj.out).row) (nvs_at ht)
   obtain ⟨Y, hY⟩ : ∃ Y, nv y p.A p.m p.c = Y := ⟨_, rfl⟩
   have hYk : Y.k = y.k := by rw [<- hY]; rfl
   have hYt : Y.t = D.sb y.t := by rw [<- hY]; rfl
   have hYn : Y.n = D.pnm y := by rw [<- hY]; rfl
   rw [hY] at hrd hck
   have hI : (j : Int) < n := by omega
   have hpx : D.prL ((vs.map (·.1)).take (j + 1)) = D.prL ((vs.map (·.1)).take j) ++ D.prN y := by rw [List.take_add_one, hx, D.prL_app]; simp [D.prL]
   have htot : (D.prL ((vs.map (·.1)).take (j + 1))).length <= (D.prL (vs.map (·.1))).length := by
    have := congrArg (fun l => (D.prL l).length) (List.take_append_drop (j + 1) (vs.map (·.1)))
    simp only [D.prL_app, List.length_append] at this
    omega
   rw [hpx, List.length_append] at htot
   have htl := HLT.out j t HT.out
   have hN : Blk (wo.alloc (.cells (nS.v Y) 80)) wo.heap.size 80 (nS.v Y) := Blk.new _ _ _
   have n0 : (wo.alloc (.cells (nS.v Y) 80)).cell? ⟨wo.heap.size, 0, none⟩ = some (.int .i64 (Y.k : Nat)) := nd_c0 hN
   have n3 := hN.lt
   obtain ⟨W1, hW1⟩ : ∃ W1, wo.alloc (.cells (nS.v Y) 80) = W1 := ⟨_, rfl⟩
   have hB1 : Rn x g b W1 (L ++ t) := by rw [<- hW1]; exact HBj.out.on (below_alloc_ _ _)
   have hN1 : Nu b W W1 := by rw [<- hW1]; exact HNj.out.trans (Nu.of_below (below_alloc_ _ _))
   have hbo : b < wo.heap.size := HBj.out.lt
   have FN : Hid (∀ W', Nu b W1 W' -> Blk W' wo.heap.size 80 (nS.v Y)) := Lib.hid fun W' h => h.keep _ _ _ (by omega) (by decide) (hW1 ▸ hN)
   have HB1 := Lib.hid hB1
   have HN1 := Lib.hid hN1
   have hll : (L ++ t).length + 20 * (D.prN y).length <= 100000 := by rw [List.length_append]; omega
   have HNX := Lib.hid (fun a (ha : N y = some a) => D.rnL_next hx HT.out ha)
   have HST := Lib.hid (fun (ha : N y = none) => D.rnL_stop hx HT.out ha)
   have HLA := Lib.hid (HLE.out j y p ht)
   clear hN hB1 hN1 hpx htot hx htl
   by_cases hk0 : y.k = 0
   ·have i0 : ((Y.k : Int) == 0) = true := by simp; omega
    obtain ⟨ht0, ht8, hNy⟩ := H0.out j y p ht hk0
    have hns : D.ns Y.t = y.t := by rw [hYt]; exact D.ns_sb ht8
    have hal := HLA.out _ hNy
    have CW := Lib.hid (fun W' (hW : Rn x g b W' (L ++ t)) => (by have := writeS_any (rr_bt x g) Y.t hW (by rw [hns]; exact ht0) (by rw [size_ns, hns]; omega); rw [hns] at this; exact this : Calls Tryz.prog 56 #[vr b, .string Y.t] W' fun e w' => e = .returned (.tuple #[.int .i64 (Y.t.size : Nat), .nilIface]) ∧ Rn x g b w' (L ++ t ++ y.t) ∧ Nu b W' w'))
    have HX := Kept.mk (HNX.out _ hNy)
    have n4 : ∀ W', Nu b W1 W' -> W'.cell? ⟨wo.heap.size, 1, none⟩ = some (.string Y.t) ∧ wo.heap.size < W'.heap.size := fun W' h => by have q := (nf_blk (FN.out W' h)).t; rw [Nat.zero_add] at q; exact ⟨q, (FN.out W' h).lt⟩
    have N4 := Lib.hid n4
    have HW1 := Kept.mk hW1
    clear hk0 hYk ht ht0 ht8 hNy hns hal hY hYt hYn n4 HP H0 H5 hW1
    go_wp2_with fail
    rw [HW1.out]
    refine wp_region_noPanic ?_
    refine wp_region_held_drew (S := fun W' => Nu b W1 W' ∧ b < W'.heap.size) (by kernel_rfl) ⟨Nu.of_below ((Below.refl _ _).drew), HB1.out.lt⟩ (fun _ => ?_)
    obtain ⟨wd, hwd⟩ : ∃ wd, W1.drew = wd := ⟨_, rfl⟩
    have bd : Below W1.heap.size W1 wd := by rw [<- hwd]; exact (Below.refl _ _).drew
    have sd : Nu b W1 wd ∧ b < wd.heap.size := ⟨Nu.of_below bd, Nat.lt_of_lt_of_le HB1.out.lt bd.size⟩
    rw [hwd]
    clear hwd
    refine takeT 0 (some 22) ?va0 ?hya0 sd ?resta0
    case hya0 => (intro o ho W hW; simp only [gT, gS, gZ, sI] at ho; subst ho; (try dsimp only at hW); have q0 := hW.2; obtain ⟨q1, q2⟩ := N4.out _ hW.1; go_simp; try rfl)
    try simp only [Act.put, iT, iZ, iS]
    refine takeT 1 (some 23) ?va1 ?hya1 sd ?resta1
    case hya1 => (intro o ho W hW; simp only [gT, gS, gZ, sI] at ho; subst ho; (try dsimp only at hW); have q0 := hW.2; obtain ⟨q1, q2⟩ := N4.out _ hW.1; go_simp; try rfl)
    try simp only [Act.put, iT, iZ, iS]
    refine takeT 2 (some 24) ?va2 ?hya2 sd ?resta2
    case hya2 => (intro o ho W hW; simp only [gT, gS, gZ, sI] at ho; subst ho; (try dsimp only at hW); have q0 := hW.2; obtain ⟨q1, q2⟩ := N4.out _ hW.1; go_simp; try rfl)
    try simp only [Act.put, iT, iZ, iS]
    refine takeT 3 (some 25) ?va3 ?hya3 sd ?resta3
    case hya3 => (intro o ho W hW; simp only [gT, gS, gZ, sI] at ho; subst ho; (try dsimp only at hW); have q0 := hW.2; obtain ⟨q1, q2⟩ := N4.out _ hW.1; go_simp; try rfl)
    try simp only [Act.put, iT, iZ, iS]
    refine takeT 4 (some 26) ?va4 ?hya4 sd ?resta4
    case hya4 => (intro o ho W hW; simp only [gT, gS, gZ, sI] at ho; subst ho; (try dsimp only at hW); have q0 := hW.2; obtain ⟨q1, q2⟩ := N4.out _ hW.1; go_simp; try rfl)
    try simp only [Act.put, iT, iZ, iS]
    refine nextS 5 (by kernel_rfl) (by rfl) (fun o ho K hK => ?_)
    simp only [gT, gS, gZ, sI] at ho; subst ho
    go_simp
    (go_at_call 56; (with_reducible refine (CW.out _ (HB1.out.on bd)).mono ?_); rintro e ww ⟨rfl, bw, nw⟩)
    have sw : Nu b W1 ww ∧ b < ww.heap.size := ⟨sd.1.trans nw, bw.lt⟩
    have HBw := Lib.hid bw
    clear bw nw
    refine hK.out _ _ sw (fun _ => ?_)
    clear hK K
    try simp only [Act.put, iT, iZ, iS]
    refine wpAnyH_done (by kernel_rfl) ?_ _
    refine NoPanic.normal ?_
    go_wp2_with fail
    go_roundw
    case rel => exact ⟨j + 1, _, by omega, by go_num, HX, Lib.hid (by rw [<- List.append_assoc]; exact HBw.out), Lib.hid (HN1.out.trans sw.1)⟩
    case measure => simp [intOf]; omega
   ·have i0 : ((Y.k : Int) == 0) = false := by simp; omega
    by_cases hk5 : y.k = 5
    ·have i5 : ((Y.k : Int) == 5) = true := by simp; omega
     have hNy := H5.out j y p ht hk5
     have hal := HLA.out _ hNy
     have CW := Lib.hid (number_any x g b sg W1 (L ++ t) HSG.out HB1.out ((HG.out.tow (HN.out.trans HN1.out)).out _ (Nu.refl _ _)).2.1 (by omega))
     have HX := Kept.mk (HNX.out _ hNy)
     subst hW1
     clear hk0 hk5 hYk ht hNy hal hY hYt hYn HP H0 H5
     go_wp2_with (go_at_call 57; (with_reducible refine CW.out.mono ?_); rintro e w2 ⟨rfl, hb2, hn2⟩; have B2 := Lib.hid hb2; have N2 := Lib.hid hn2; clear hb2 hn2)
     go_roundw
     case rel => exact ⟨j + 1, _, by omega, by go_num, HX, Lib.hid (by rw [<- List.append_assoc]; exact B2.out), Lib.hid (HN1.out.trans N2.out)⟩
     case measure => simp [intOf]; omega
    ·have i5 : ((Y.k : Int) == 5) = false := by simp; omega
     obtain ⟨hp1, hp2⟩ := HP.out j y p ht hk0 hk5
     rw [hY] at hp2
     rw [<- hYn] at hp1 hp2
     have HL := Lib.hid (fun W' (h : Below W1.heap.size W1 W') => (((HG.out.tow (HN.out.trans HN1.out)).out W' (Nu.of_below h)).2.2).look Y.n)
     have NF := Lib.hid (fun W' (h : Below W1.heap.size W1 W') => (⟨(by have q := (nf_blk (FN.out W' (Nu.of_below h))).n; rw [Nat.zero_add] at q; exact q), (FN.out W' (Nu.of_below h)).lt⟩ : Nm.rd W' ⟨wo.heap.size, 2, none⟩ = some Y.n ∧ wo.heap.size < W'.heap.size))
     have MC := Lib.hid (fun W' (h : Below W1.heap.size W1 W') => (⟨(rn_tag (HB1.out.on h)).2, (HB1.out.on h).lt⟩ : W'.cell? ⟨b, 12, none⟩ = some (.map (some g)) ∧ b < W'.heap.size))
     have HNW := Lib.hid (HN.out.trans HN1.out)
     have HW1 := Kept.mk hW1
     cases hf : f Y.n with
     | none =>
      have HS := Kept.mk (HST.out (hp1 hf))
      rw [hf] at HL
      have HL : Hid (∀ W', Below W1.heap.size W1 W' -> (Instr.lookup 88 (.map (some g)) (.agg (Nm.nc Y.n)) true).run Tryz.prog W' = .ok (.tuple #[.agg (vS.v zVl), .bool false]) W') := HL
      clear hk0 hk5 hYk ht hY hYt hYn HP H0 H5 hp1 hp2 hf hW1
      go_wp2_with fail
      rw [HW1.out]
      refine wp_region_noPanic ?_
      refine wp_region_held_drew (S := fun W' => Below W1.heap.size W1 W') (by kernel_rfl) ((Below.refl _ _).drew) (fun _ => ?_)
      obtain ⟨wd, hwd⟩ : ∃ wd, W1.drew = wd := ⟨_, rfl⟩
      have sd : Below W1.heap.size W1 wd := by rw [<- hwd]; exact (Below.refl _ _).drew
      rw [hwd]
      clear hwd
      refine takeT 0 (some 34) ?vb0 ?hyb0 sd ?restb0
      case hyb0 => (intro o ho W hW; simp only [gT, gS, gZ, sI] at ho; subst ho; (try dsimp only at hW); obtain ⟨q0, q1⟩ := NF.out _ hW; obtain ⟨q2, q3⟩ := MC.out _ hW; have q4 := HL.out _ hW; go_simp; try rfl)
      try simp only [Act.put, iT, iZ, iS]
      refine takeT 1 (some 35) ?vb1 ?hyb1 sd ?restb1
      case hyb1 => (intro o ho W hW; simp only [gT, gS, gZ, sI] at ho; subst ho; (try dsimp only at hW); obtain ⟨q0, q1⟩ := NF.out _ hW; obtain ⟨q2, q3⟩ := MC.out _ hW; have q4 := HL.out _ hW; go_simp; try rfl)
      try simp only [Act.put, iT, iZ, iS]
      refine takeT 2 (some 36) ?vb2 ?hyb2 sd ?restb2
      case hyb2 => (intro o ho W hW; simp only [gT, gS, gZ, sI] at ho; subst ho; (try dsimp only at hW); obtain ⟨q0, q1⟩ := NF.out _ hW; obtain ⟨q2, q3⟩ := MC.out _ hW; have q4 := HL.out _ hW; go_simp; try rfl)
      try simp only [Act.put, iT, iZ, iS]
      refine takeT 3 (some 37) ?vb3 ?hyb3 sd ?restb3
      case hyb3 => (intro o ho W hW; simp only [gT, gS, gZ, sI] at ho; subst ho; (try dsimp only at hW); obtain ⟨q0, q1⟩ := NF.out _ hW; obtain ⟨q2, q3⟩ := MC.out _ hW; have q4 := HL.out _ hW; go_simp; try rfl)
      try simp only [Act.put, iT, iZ, iS]
      refine takeT 4 (some 38) ?vb4 ?hyb4 sd ?restb4
      case hyb4 => (intro o ho W hW; simp only [gT, gS, gZ, sI] at ho; subst ho; (try dsimp only at hW); obtain ⟨q0, q1⟩ := NF.out _ hW; obtain ⟨q2, q3⟩ := MC.out _ hW; have q4 := HL.out _ hW; go_simp; try rfl)
      try simp only [Act.put, iT, iZ, iS]
      refine takeT 5 (some 39) ?vb5 ?hyb5 sd ?restb5
      case hyb5 => (intro o ho W hW; simp only [gT, gS, gZ, sI] at ho; subst ho; (try dsimp only at hW); obtain ⟨q0, q1⟩ := NF.out _ hW; obtain ⟨q2, q3⟩ := MC.out _ hW; have q4 := HL.out _ hW; go_simp; try rfl)
      try simp only [Act.put, iT, iZ, iS]
      refine takeT 6 (some 40) ?vb6 ?hyb6 sd ?restb6
      case hyb6 => (intro o ho W hW; simp only [gT, gS, gZ, sI] at ho; subst ho; (try dsimp only at hW); obtain ⟨q0, q1⟩ := NF.out _ hW; obtain ⟨q2, q3⟩ := MC.out _ hW; have q4 := HL.out _ hW; go_simp; try rfl)
      try simp only [Act.put, iT, iZ, iS]
      refine takeT 7 (some 33) ?vb7 ?hyb7 sd ?restb7
      case hyb7 => (intro o ho W hW; simp only [gT, gS, gZ, sI] at ho; subst ho; (try dsimp only at hW); obtain ⟨q0, q1⟩ := NF.out _ hW; obtain ⟨q2, q3⟩ := MC.out _ hW; have q4 := HL.out _ hW; go_simp; try rfl)
      try simp only [Act.put, iT, iZ, iS]
      refine takeT 8 (some 41) ?vb8 ?hyb8 sd ?restb8
      case hyb8 => (intro o ho W hW; simp only [gT, gS, gZ, sI] at ho; subst ho; (try dsimp only at hW); obtain ⟨q0, q1⟩ := NF.out _ hW; obtain ⟨q2, q3⟩ := MC.out _ hW; have q4 := HL.out _ hW; go_simp; try rfl)
      try simp only [Act.put, iT, iZ, iS]
      refine takeT 9 (some 42) ?vb9 ?hyb9 sd ?restb9
      case hyb9 => (intro o ho W hW; simp only [gT, gS, gZ, sI] at ho; subst ho; (try dsimp only at hW); obtain ⟨q0, q1⟩ := NF.out _ hW; obtain ⟨q2, q3⟩ := MC.out _ hW; have q4 := HL.out _ hW; go_simp; try rfl)
      try simp only [Act.put, iT, iZ, iS]
      refine nextS 10 (by kernel_rfl) (by rfl) (fun o ho K hK => ?_)
      simp only [gT, gS, gZ, sI] at ho; subst ho
      go_simp
      have sa : Below W1.heap.size W1 (wd.alloc (.cells #[.int .u8 0, .int .u8 0, .int .u8 0, .int .u8 0, .int .u8 0, .int .u8 0, .int .u8 0, .int .u8 0, .int .u8 0, .int .u8 0, .int .u8 0, .int .u8 0, .int .u64 0, .string ⟨#[]⟩] 64)) := sd.alloc sd.size _
      refine hK.out _ _ sa (fun _ => ?_)
      clear hK K
      try simp only [Act.put, iT, iZ, iS]
      refine nextS 11 (by kernel_rfl) (by rfl) (fun o ho K hK => ?_)
      simp only [gT, gS, gZ, sI] at ho; subst ho
      go_simp
      have s11 : Below W1.heap.size W1 (wd.alloc (.cells (vS.v zVl) 64)) := sd.alloc sd.size _
      refine hK.out _ _ s11 (fun _ => ?_)
      clear hK K
      try simp only [Act.put, iT, iZ, iS]
      refine takeT 12 (some 10) ?vb12 ?hyb12 s11 ?restb12
      case hyb12 => (intro o ho W hW; simp only [gT, gS, gZ, sI] at ho; subst ho; (try dsimp only at hW); go_simp; try rfl)
      try simp only [Act.put, iT, iZ, iS]
      refine wpAnyH_done (by kernel_rfl) ?_ _
      refine NoPanic.normal ?_
      go_wp2_with fail
      refine bodyPost_ret (v := .int .i64 7) (by simp [results, Tryz.results30, go_sem]) rfl ?_
      rw [HS.out]
      exact ⟨rfl, (fun t e => by cases e), HN1.out.trans (Nu.of_below s11)⟩
     | some z =>
      rw [hf] at HL
      have HL : Hid (∀ W', Below W1.heap.size W1 W' -> (Instr.lookup 88 (.map (some g)) (.agg (Nm.nc Y.n)) true).run Tryz.prog W' = .ok (.tuple #[.agg (vS.v z), .bool true]) W') := HL
      have hpz := hp2 z hf
      cases hNy : N y with
      | none =>
       rw [hNy] at hpz
       have HS := Kept.mk (HST.out hNy)
       have CP : Hid (∀ W', Below W1.heap.size W1 W' -> Calls Tryz.prog 58 #[vr b, .agg (nS.v Y), .agg (vS.v z), .int .u64 (sg : Nat)] W' fun e w' => e = .returned (.int .i64 7) ∧ Nu b W' w') := Lib.hid fun W' h => (hpz W' (L ++ t) (HNW.out.trans (Nu.of_below h)) (HB1.out.on h) hll).mono fun e w' ⟨h1, h2, h3⟩ => ⟨h1, h3⟩
       clear hk0 hk5 hYk ht hY hYt hYn HP H0 H5 hp1 hp2 hf hW1 hpz hNy
       go_wp2_with fail
       rw [HW1.out]
       refine wp_region_noPanic ?_
       refine wp_region_held_drew (S := fun W' => Below W1.heap.size W1 W') (by kernel_rfl) ((Below.refl _ _).drew) (fun _ => ?_)
       obtain ⟨wd, hwd⟩ : ∃ wd, W1.drew = wd := ⟨_, rfl⟩
       have sd : Below W1.heap.size W1 wd := by rw [<- hwd]; exact (Below.refl _ _).drew
       rw [hwd]
       clear hwd
       refine takeT 0 (some 34) ?vc0 ?hyc0 sd ?restc0
       case hyc0 => (intro o ho W hW; simp only [gT, gS, gZ, sI] at ho; subst ho; (try dsimp only at hW); obtain ⟨q0, q1⟩ := NF.out _ hW; obtain ⟨q2, q3⟩ := MC.out _ hW; have q4 := HL.out _ hW; go_simp; try rfl)
       try simp only [Act.put, iT, iZ, iS]
       refine takeT 1 (some 35) ?vc1 ?hyc1 sd ?restc1
       case hyc1 => (intro o ho W hW; simp only [gT, gS, gZ, sI] at ho; subst ho; (try dsimp only at hW); obtain ⟨q0, q1⟩ := NF.out _ hW; obtain ⟨q2, q3⟩ := MC.out _ hW; have q4 := HL.out _ hW; go_simp; try rfl)
       try simp only [Act.put, iT, iZ, iS]
       refine takeT 2 (some 36) ?vc2 ?hyc2 sd ?restc2
       case hyc2 => (intro o ho W hW; simp only [gT, gS, gZ, sI] at ho; subst ho; (try dsimp only at hW); obtain ⟨q0, q1⟩ := NF.out _ hW; obtain ⟨q2, q3⟩ := MC.out _ hW; have q4 := HL.out _ hW; go_simp; try rfl)
       try simp only [Act.put, iT, iZ, iS]
       refine takeT 3 (some 37) ?vc3 ?hyc3 sd ?restc3
       case hyc3 => (intro o ho W hW; simp only [gT, gS, gZ, sI] at ho; subst ho; (try dsimp only at hW); obtain ⟨q0, q1⟩ := NF.out _ hW; obtain ⟨q2, q3⟩ := MC.out _ hW; have q4 := HL.out _ hW; go_simp; try rfl)
       try simp only [Act.put, iT, iZ, iS]
       refine takeT 4 (some 38) ?vc4 ?hyc4 sd ?restc4
       case hyc4 => (intro o ho W hW; simp only [gT, gS, gZ, sI] at ho; subst ho; (try dsimp only at hW); obtain ⟨q0, q1⟩ := NF.out _ hW; obtain ⟨q2, q3⟩ := MC.out _ hW; have q4 := HL.out _ hW; go_simp; try rfl)
       try simp only [Act.put, iT, iZ, iS]
       refine takeT 5 (some 39) ?vc5 ?hyc5 sd ?restc5
       case hyc5 => (intro o ho W hW; simp only [gT, gS, gZ, sI] at ho; subst ho; (try dsimp only at hW); obtain ⟨q0, q1⟩ := NF.out _ hW; obtain ⟨q2, q3⟩ := MC.out _ hW; have q4 := HL.out _ hW; go_simp; try rfl)
       try simp only [Act.put, iT, iZ, iS]
       refine takeT 6 (some 40) ?vc6 ?hyc6 sd ?restc6
       case hyc6 => (intro o ho W hW; simp only [gT, gS, gZ, sI] at ho; subst ho; (try dsimp only at hW); obtain ⟨q0, q1⟩ := NF.out _ hW; obtain ⟨q2, q3⟩ := MC.out _ hW; have q4 := HL.out _ hW; go_simp; try rfl)
       try simp only [Act.put, iT, iZ, iS]
       refine takeT 7 (some 33) ?vc7 ?hyc7 sd ?restc7
       case hyc7 => (intro o ho W hW; simp only [gT, gS, gZ, sI] at ho; subst ho; (try dsimp only at hW); obtain ⟨q0, q1⟩ := NF.out _ hW; obtain ⟨q2, q3⟩ := MC.out _ hW; have q4 := HL.out _ hW; go_simp; try rfl)
       try simp only [Act.put, iT, iZ, iS]
       refine takeT 8 (some 41) ?vc8 ?hyc8 sd ?restc8
       case hyc8 => (intro o ho W hW; simp only [gT, gS, gZ, sI] at ho; subst ho; (try dsimp only at hW); obtain ⟨q0, q1⟩ := NF.out _ hW; obtain ⟨q2, q3⟩ := MC.out _ hW; have q4 := HL.out _ hW; go_simp; try rfl)
       try simp only [Act.put, iT, iZ, iS]
       refine takeT 9 (some 42) ?vc9 ?hyc9 sd ?restc9
       case hyc9 => (intro o ho W hW; simp only [gT, gS, gZ, sI] at ho; subst ho; (try dsimp only at hW); obtain ⟨q0, q1⟩ := NF.out _ hW; obtain ⟨q2, q3⟩ := MC.out _ hW; have q4 := HL.out _ hW; go_simp; try rfl)
       try simp only [Act.put, iT, iZ, iS]
       refine nextS 10 (by kernel_rfl) (by rfl) (fun o ho K hK => ?_)
       simp only [gT, gS, gZ, sI] at ho; subst ho
       go_simp
       have sa : Below W1.heap.size W1 (wd.alloc (.cells #[.int .u8 0, .int .u8 0, .int .u8 0, .int .u8 0, .int .u8 0, .int .u8 0, .int .u8 0, .int .u8 0, .int .u8 0, .int .u8 0, .int .u8 0, .int .u8 0, .int .u64 0, .string ⟨#[]⟩] 64)) := sd.alloc sd.size _
       refine hK.out _ _ sa (fun _ => ?_)
       clear hK K
       try simp only [Act.put, iT, iZ, iS]
       refine nextS 11 (by kernel_rfl) (by rfl) (fun o ho K hK => ?_)
       simp only [gT, gS, gZ, sI] at ho; subst ho
       go_simp
       have s11 : Below W1.heap.size W1 (wd.alloc (.cells (vS.v z) 64)) := sd.alloc sd.size _
       refine hK.out _ _ s11 (fun _ => ?_)
       clear hK K
       try simp only [Act.put, iT, iZ, iS]
       refine takeT 12 (some 10) ?vc12 ?hyc12 s11 ?restc12
       case hyc12 => (intro o ho W hW; simp only [gT, gS, gZ, sI] at ho; subst ho; (try dsimp only at hW); go_simp; try rfl)
       try simp only [Act.put, iT, iZ, iS]
       refine wpAnyH_done (by kernel_rfl) ?_ _
       refine NoPanic.normal ?_
       have v0 : vS.rd (wd.alloc (.cells (vS.v z) 64)) ⟨wd.heap.size, 0, none⟩ = some z := Shp.rd_blk (Blk.new _ _ _)
       have v1 := nd_rd (FN.out _ (Nu.of_below s11))
       have v2 : wo.heap.size < (wd.alloc (.cells (vS.v z) 64)).heap.size := (NF.out _ s11).2
       have v3 : wd.heap.size < (wd.alloc (.cells (vS.v z) 64)).heap.size := by simp
       go_wp2_with (go_at_call 58; (with_reducible refine (CP.out _ s11).mono ?_); rintro e w5 ⟨rfl, n5⟩; have N5 := Lib.hid n5; clear n5)
       refine bodyPost_ret (v := .int .i64 7) (by simp [results, Tryz.results30, go_sem]) rfl ?_
       rw [HS.out]
       exact ⟨rfl, (fun t e => by cases e), HN1.out.trans ((Nu.of_below s11).trans N5.out)⟩
      | some a =>
       rw [hNy] at hpz
       have HX := Kept.mk (HNX.out _ hNy)
       have CP : Hid (∀ W', Below W1.heap.size W1 W' -> Calls Tryz.prog 58 #[vr b, .agg (nS.v Y), .agg (vS.v z), .int .u64 (sg : Nat)] W' fun e w' => e = .returned (.int .i64 0) ∧ Rn x g b w' (L ++ t ++ a) ∧ Nu b W' w') := Lib.hid fun W' h => (hpz W' (L ++ t) (HNW.out.trans (Nu.of_below h)) (HB1.out.on h) hll).mono fun e w' ⟨h1, h2, h3⟩ => ⟨h1, h2 a rfl, h3⟩
       clear hk0 hk5 hYk ht hY hYt hYn HP H0 H5 hp1 hp2 hf hW1 hpz hNy
       go_wp2_with fail
       rw [HW1.out]
       refine wp_region_noPanic ?_
       refine wp_region_held_drew (S := fun W' => Below W1.heap.size W1 W') (by kernel_rfl) ((Below.refl _ _).drew) (fun _ => ?_)
       obtain ⟨wd, hwd⟩ : ∃ wd, W1.drew = wd := ⟨_, rfl⟩
       have sd : Below W1.heap.size W1 wd := by rw [<- hwd]; exact (Below.refl _ _).drew
       rw [hwd]
       clear hwd
       refine takeT 0 (some 34) ?vd0 ?hyd0 sd ?restd0
       case hyd0 => (intro o ho W hW; simp only [gT, gS, gZ, sI] at ho; subst ho; (try dsimp only at hW); obtain ⟨q0, q1⟩ := NF.out _ hW; obtain ⟨q2, q3⟩ := MC.out _ hW; have q4 := HL.out _ hW; go_simp; try rfl)
       try simp only [Act.put, iT, iZ, iS]
       refine takeT 1 (some 35) ?vd1 ?hyd1 sd ?restd1
       case hyd1 => (intro o ho W hW; simp only [gT, gS, gZ, sI] at ho; subst ho; (try dsimp only at hW); obtain ⟨q0, q1⟩ := NF.out _ hW; obtain ⟨q2, q3⟩ := MC.out _ hW; have q4 := HL.out _ hW; go_simp; try rfl)
       try simp only [Act.put, iT, iZ, iS]
       refine takeT 2 (some 36) ?vd2 ?hyd2 sd ?restd2
       case hyd2 => (intro o ho W hW; simp only [gT, gS, gZ, sI] at ho; subst ho; (try dsimp only at hW); obtain ⟨q0, q1⟩ := NF.out _ hW; obtain ⟨q2, q3⟩ := MC.out _ hW; have q4 := HL.out _ hW; go_simp; try rfl)
       try simp only [Act.put, iT, iZ, iS]
       refine takeT 3 (some 37) ?vd3 ?hyd3 sd ?restd3
       case hyd3 => (intro o ho W hW; simp only [gT, gS, gZ, sI] at ho; subst ho; (try dsimp only at hW); obtain ⟨q0, q1⟩ := NF.out _ hW; obtain ⟨q2, q3⟩ := MC.out _ hW; have q4 := HL.out _ hW; go_simp; try rfl)
       try simp only [Act.put, iT, iZ, iS]
       refine takeT 4 (some 38) ?vd4 ?hyd4 sd ?restd4
       case hyd4 => (intro o ho W hW; simp only [gT, gS, gZ, sI] at ho; subst ho; (try dsimp only at hW); obtain ⟨q0, q1⟩ := NF.out _ hW; obtain ⟨q2, q3⟩ := MC.out _ hW; have q4 := HL.out _ hW; go_simp; try rfl)
       try simp only [Act.put, iT, iZ, iS]
       refine takeT 5 (some 39) ?vd5 ?hyd5 sd ?restd5
       case hyd5 => (intro o ho W hW; simp only [gT, gS, gZ, sI] at ho; subst ho; (try dsimp only at hW); obtain ⟨q0, q1⟩ := NF.out _ hW; obtain ⟨q2, q3⟩ := MC.out _ hW; have q4 := HL.out _ hW; go_simp; try rfl)
       try simp only [Act.put, iT, iZ, iS]
       refine takeT 6 (some 40) ?vd6 ?hyd6 sd ?restd6
       case hyd6 => (intro o ho W hW; simp only [gT, gS, gZ, sI] at ho; subst ho; (try dsimp only at hW); obtain ⟨q0, q1⟩ := NF.out _ hW; obtain ⟨q2, q3⟩ := MC.out _ hW; have q4 := HL.out _ hW; go_simp; try rfl)
       try simp only [Act.put, iT, iZ, iS]
       refine takeT 7 (some 33) ?vd7 ?hyd7 sd ?restd7
       case hyd7 => (intro o ho W hW; simp only [gT, gS, gZ, sI] at ho; subst ho; (try dsimp only at hW); obtain ⟨q0, q1⟩ := NF.out _ hW; obtain ⟨q2, q3⟩ := MC.out _ hW; have q4 := HL.out _ hW; go_simp; try rfl)
       try simp only [Act.put, iT, iZ, iS]
       refine takeT 8 (some 41) ?vd8 ?hyd8 sd ?restd8
       case hyd8 => (intro o ho W hW; simp only [gT, gS, gZ, sI] at ho; subst ho; (try dsimp only at hW); obtain ⟨q0, q1⟩ := NF.out _ hW; obtain ⟨q2, q3⟩ := MC.out _ hW; have q4 := HL.out _ hW; go_simp; try rfl)
       try simp only [Act.put, iT, iZ, iS]
       refine takeT 9 (some 42) ?vd9 ?hyd9 sd ?restd9
       case hyd9 => (intro o ho W hW; simp only [gT, gS, gZ, sI] at ho; subst ho; (try dsimp only at hW); obtain ⟨q0, q1⟩ := NF.out _ hW; obtain ⟨q2, q3⟩ := MC.out _ hW; have q4 := HL.out _ hW; go_simp; try rfl)
       try simp only [Act.put, iT, iZ, iS]
       refine nextS 10 (by kernel_rfl) (by rfl) (fun o ho K hK => ?_)
       simp only [gT, gS, gZ, sI] at ho; subst ho
       go_simp
       have sa : Below W1.heap.size W1 (wd.alloc (.cells #[.int .u8 0, .int .u8 0, .int .u8 0, .int .u8 0, .int .u8 0, .int .u8 0, .int .u8 0, .int .u8 0, .int .u8 0, .int .u8 0, .int .u8 0, .int .u8 0, .int .u64 0, .string ⟨#[]⟩] 64)) := sd.alloc sd.size _
       refine hK.out _ _ sa (fun _ => ?_)
       clear hK K
       try simp only [Act.put, iT, iZ, iS]
       refine nextS 11 (by kernel_rfl) (by rfl) (fun o ho K hK => ?_)
       simp only [gT, gS, gZ, sI] at ho; subst ho
       go_simp
       have s11 : Below W1.heap.size W1 (wd.alloc (.cells (vS.v z) 64)) := sd.alloc sd.size _
       refine hK.out _ _ s11 (fun _ => ?_)
       clear hK K
       try simp only [Act.put, iT, iZ, iS]
       refine takeT 12 (some 10) ?vd12 ?hyd12 s11 ?restd12
       case hyd12 => (intro o ho W hW; simp only [gT, gS, gZ, sI] at ho; subst ho; (try dsimp only at hW); go_simp; try rfl)
       try simp only [Act.put, iT, iZ, iS]
       refine wpAnyH_done (by kernel_rfl) ?_ _
       refine NoPanic.normal ?_
       have v0 : vS.rd (wd.alloc (.cells (vS.v z) 64)) ⟨wd.heap.size, 0, none⟩ = some z := Shp.rd_blk (Blk.new _ _ _)
       have v1 := nd_rd (FN.out _ (Nu.of_below s11))
       have v2 : wo.heap.size < (wd.alloc (.cells (vS.v z) 64)).heap.size := (NF.out _ s11).2
       have v3 : wd.heap.size < (wd.alloc (.cells (vS.v z) 64)).heap.size := by simp
       go_wp2_with (go_at_call 58; (with_reducible refine (CP.out _ s11).mono ?_); rintro e w5 ⟨rfl, b5, n5⟩; have N5 := Lib.hid n5; have B5 := Lib.hid b5; clear n5 b5)
       go_roundw
       case rel => exact ⟨j + 1, _, by omega, by go_num, HX, Lib.hid (by rw [<- List.append_assoc]; exact B5.out), Lib.hid (HN1.out.trans ((Nu.of_below s11).trans N5.out))⟩
       case measure => simp [intOf]; omega
  ·obtain rfl : j = n := by omega
   have hall : (vs.map (·.1)).take j = vs.map (·.1) := List.take_of_length_le (by simp [hlen])
   have hTT := HT.out
   rw [hall] at hTT
   have HA := Kept.mk hTT
   clear hall hTT
   go_wp2
   refine bodyPost_ret (v := .int .i64 0) (by simp [results, Tryz.results30, go_sem]) rfl ?_
   rw [HA.out]
   exact ⟨rfl, (fun q e => by injection e with e; rw [<- e]; exact HBj.out), HNj.out⟩

theorem D.kid_at {ws : List (List Nat)} {ks : List (List D.Nd)} (t : List Nat) (hl : ws.length = ks.length) (ho : D.othT ∈ ws) : ks[D.kix ws t]? = some (D.kid ws ks t) := by
 have h := D.kix_lt t ho
 unfold D.kid
 rw [List.getD_eq_getElem?_getD]
 have : ks[D.kix ws t]? = some (ks[D.kix ws t]'(by omega)) := List.getElem?_eq_getElem _
 unfold D.kix at this
 rw [this]
 unfold D.kix
 rw [this]
 rfl
theorem RnC.most {x : D.Tg} {g b : Nat} {fn : FuncId} {args : Array Value} {w : World} {o : Option (List Nat)} {m m' : Nat} (h : RnC x g b fn args w o m) (hm : m <= m') : RnC x g b fn args w o m' := fun W L h1 h2 h3 => h W L h1 h2 (by omega)
set_option maxHeartbeats 8000000 in
theorem place_plu (x : D.Tg) (g b k m c sg kk M : Nat) (f : Nm.D.Nm -> Option D.Vl) (A : Option Addr) (t : ByteArray) (nm : Nm.D.Nm) (z : D.Vl) (w : World) (hbl : b <= w.heap.size) (hG : Rg b g kk f w) (hz : z.N < 18446744073709551616) (ws : List (List Nat)) (ks : List (List D.Nd)) (cs : List (List Nat × Value)) (hr : RF 2 (fun i => i < b) w A m (ccs cs)) (hmn : m <= 1000) (hcw : cs.map (·.1) = ws) (hB8 : D.B8 ws) (hl : ws.length = ks.length) (h1 : ∀ x ∈ cs, ∃ (A : Option Addr) (n c : Nat), x.2 = .slice A n c) (ho : D.othT ∈ ws) (K : List D.Nd -> Option (List Nat)) (hk : k = 3) (hc : ∀ t ∈ ws, t ∈ D.catW) (hK : ∀ (j : Nat) (t : List Nat) (u : Value) (q : List D.Nd), cs[j]? = some (t, u) -> ks[j]? = some q -> RnC x g b 30 #[vr b, u, .int .u64 (z.N : Nat)] w (K q) M) :
  RnC x g b 58 #[vr b, .agg (nS.v ⟨k, t, nm, A, m, c⟩), .agg (vS.v z), .int .u64 (sg : Nat)] w (K (D.kid ws ks (D.catW.getD (D.pof (D.gr x) z.N) []))) M := by
 intro W L hNu hB hsz
 obtain ⟨Y, hY⟩ : ∃ Y : D.Nv, ⟨k, t, nm, A, m, c⟩ = Y := ⟨_, rfl⟩
 have hY1 : Y.k = k := by rw [<- hY]
 have hY3 : Value.slice Y.A Y.m Y.c = .slice A m c := by rw [<- hY]
 rw [hY]
 clear hY
 have hlt := hB.lt
 obtain ⟨W2, hW2⟩ : ∃ W2, (W.alloc (.cells (nS.v Y) 80)).alloc (.cells (vS.v z) 64) = W2 := ⟨_, rfl⟩
 have sB : Below W.heap.size W W2 := by rw [<- hW2]; exact ((Below.refl _ _).alloc (Nat.le_refl _) _).alloc (by simp) _
 have hG2 : Blk W2 W.heap.size 80 (nS.v Y) := by rw [<- hW2]; exact (Blk.new _ _ _).on (below_alloc_ _ _)
 have hV2 : Blk W2 (W.heap.size + 1) 64 (vS.v z) := by rw [<- hW2]; have := Blk.new (W.alloc (.cells (nS.v Y) 80)) 64 (vS.v z); simpa using this
 have hB2 : Rn x g b W2 L := hB.on sB
 have hN2 : Nu b W W2 := Nu.of_below sB
 have FF : Hid (∀ W', Nu b W2 W' -> W'.cell? ⟨W.heap.size, 0, none⟩ = some (.int .i64 (k : Nat)) ∧ W'.cell? ⟨W.heap.size, 14, none⟩ = some (.slice A m c) ∧ W.heap.size < W'.heap.size ∧ VF W' (W.heap.size + 1) z) := Lib.hid fun W' h => by
  have h1 := h.keep _ _ _ (by omega) (by decide) hG2
  have h2 := h.keep _ _ _ (by omega) (by decide) hV2
  have q := nf_blk h1
  have q1 := q.k; have q2 := q.c
  simp only [Nat.zero_add] at q1 q2
  rw [hY1] at q1; rw [hY3] at q2
  exact ⟨q1, q2, h1.lt, vf_blk h2⟩
 obtain ⟨g0, g1, g2, gv⟩ := FF.out W2 (Nu.refl _ _)
 have g3 := gv.N; have g4 := gv.t; have g5 := gv.l
 have HB2 := Lib.hid hB2
 have HN2 := Lib.hid hN2
 have HNW := Lib.hid (hNu.trans hN2)
 have HGW := Lib.hid (fun W' (h : Nu b W2 W') => hG.out W' ((hNu.trans hN2).trans h))
 have i3 : ((k : Int) == 3) = true := by simp; omega
 have hq := D.kid_at (D.catW.getD (D.pof (D.gr x) z.N) []) hl ho
 subst hcw
 have HR := Lib.hid (fun W' (h : Nu b W2 W') => (Nu.row (Nu.row hr (hNu.trans hN2)) h).row)
 have CA := Lib.hid (fun W' (h : Below W2.heap.size W2 W') => asked_any x g b z.N m c A cs W' L (hB2.on h) ((hG.out W' ((hNu.trans hN2).trans (Nu.of_below h))).1) ((Nu.row (Nu.row hr (hNu.trans hN2)) (Nu.of_below h)).row) hB8 h1 (by omega) hc ho)
 have CM := Lib.hid (fun (t : List Nat) (v : Value) (hj : cs[D.kix (cs.map (·.1)) (D.catW.getD (D.pof (D.gr x) z.N) [])]? = some (t, v)) W' (h : Below W2.heap.size W2 W') => hK _ t v _ hj hq W' L ((hNu.trans hN2).trans (Nu.of_below h)) (hB2.on h) hsz)
 obtain ⟨o, hoo⟩ : ∃ o, K (D.kid (cs.map (·.1)) ks (D.catW.getD (D.pof (D.gr x) z.N) [])) = o := ⟨_, rfl⟩
 rw [hoo] at CM ⊢
 have HW2 := Kept.mk hW2
 clear hNu hB hG hz hr hmn hB8 hl h1 ho hK hc hq hoo hk hY1 hY3 sB hG2 hV2 hB2 hN2 gv
 subst hW2
 go_enter Tryz.func58, Tryz.ntmps58
 go_wp2_with fail
 obtain ⟨W2, hW2⟩ : ∃ W2, ((W.alloc (.cells (nS.v Y) 80)).alloc (.cells (vS.v z) 64)) = W2 := ⟨_, rfl⟩
 rw [hW2] at HB2 HN2 HNW HGW FF HR CA CM ⊢
 refine wp_region_noPanic ?_
 refine wp_region_held_drew (S := fun W' => Nu b W2 W') (by kernel_rfl) (Nu.of_below ((Below.refl _ _).drew)) (fun _ => ?_)
 obtain ⟨wd, hwd⟩ : ∃ wd, W2.drew = wd := ⟨_, rfl⟩
 have bd : Below W2.heap.size W2 wd := by rw [<- hwd]; exact (Below.refl _ _).drew
 have sd : Nu b W2 wd := Nu.of_below bd
 rw [hwd]
 clear hwd
 refine takeT 0 (some 17) ?vp0 ?hyp0 sd ?restp0
 case hyp0 => (intro o ho W hW; simp only [gT, gS, gZ, sI] at ho; subst ho; (try dsimp only at hW); obtain ⟨q0, q1, q2, qv⟩ := FF.out _ hW; have q3 := qv.N; have q4 := qv.t; have q5 := qv.l; go_simp; try rfl)
 try simp only [Act.put, iT, iZ, iS]
 refine takeT 1 (some 18) ?vp1 ?hyp1 sd ?restp1
 case hyp1 => (intro o ho W hW; simp only [gT, gS, gZ, sI] at ho; subst ho; (try dsimp only at hW); obtain ⟨q0, q1, q2, qv⟩ := FF.out _ hW; have q3 := qv.N; have q4 := qv.t; have q5 := qv.l; go_simp; try rfl)
 try simp only [Act.put, iT, iZ, iS]
 refine takeT 2 (some 19) ?vp2 ?hyp2 sd ?restp2
 case hyp2 => (intro o ho W hW; simp only [gT, gS, gZ, sI] at ho; subst ho; (try dsimp only at hW); obtain ⟨q0, q1, q2, qv⟩ := FF.out _ hW; have q3 := qv.N; have q4 := qv.t; have q5 := qv.l; go_simp; try rfl)
 try simp only [Act.put, iT, iZ, iS]
 refine takeT 3 (some 20) ?vp3 ?hyp3 sd ?restp3
 case hyp3 => (intro o ho W hW; simp only [gT, gS, gZ, sI] at ho; subst ho; (try dsimp only at hW); obtain ⟨q0, q1, q2, qv⟩ := FF.out _ hW; have q3 := qv.N; have q4 := qv.t; have q5 := qv.l; go_simp; try rfl)
 try simp only [Act.put, iT, iZ, iS]
 refine takeT 4 (some 21) ?vp4 ?hyp4 sd ?restp4
 case hyp4 => (intro o ho W hW; simp only [gT, gS, gZ, sI] at ho; subst ho; (try dsimp only at hW); obtain ⟨q0, q1, q2, qv⟩ := FF.out _ hW; have q3 := qv.N; have q4 := qv.t; have q5 := qv.l; go_simp; try rfl)
 try simp only [Act.put, iT, iZ, iS]
 refine takeT 5 (some 22) ?vp5 ?hyp5 sd ?restp5
 case hyp5 => (intro o ho W hW; simp only [gT, gS, gZ, sI] at ho; subst ho; (try dsimp only at hW); obtain ⟨q0, q1, q2, qv⟩ := FF.out _ hW; have q3 := qv.N; have q4 := qv.t; have q5 := qv.l; go_simp; try rfl)
 try simp only [Act.put, iT, iZ, iS]
 refine takeT 7 (some 24) ?vp7 ?hyp7 sd ?restp7
 case hyp7 => (intro o ho W hW; simp only [gT, gS, gZ, sI] at ho; subst ho; (try dsimp only at hW); obtain ⟨q0, q1, q2, qv⟩ := FF.out _ hW; have q3 := qv.N; have q4 := qv.t; have q5 := qv.l; go_simp; try rfl)
 try simp only [Act.put, iT, iZ, iS]
 refine takeT 8 (some 25) ?vp8 ?hyp8 sd ?restp8
 case hyp8 => (intro o ho W hW; simp only [gT, gS, gZ, sI] at ho; subst ho; (try dsimp only at hW); obtain ⟨q0, q1, q2, qv⟩ := FF.out _ hW; have q3 := qv.N; have q4 := qv.t; have q5 := qv.l; go_simp; try rfl)
 try simp only [Act.put, iT, iZ, iS]
 refine nextS 6 (by kernel_rfl) (by rfl) (fun o ho K hK => ?_)
 simp only [gT, gS, gZ, sI] at ho; subst ho
 go_simp
 (go_at_call 84; (with_reducible refine (CA.out _ bd).mono ?_); rintro e wa ⟨⟨ta, va, ja, rfl⟩, ba⟩)
 have bA : Below W2.heap.size W2 wa := bd.trans (ba.mono bd.size)
 have sa : Nu b W2 wa := Nu.of_below bA
 refine hK.out _ _ sa (fun _ => ?_)
 clear hK K
 try simp only [Act.put, iT, iZ, iS]
 refine nextS 9 (by kernel_rfl) (by rfl) (fun o ho K hK => ?_)
 simp only [gT, gS, gZ, sI] at ho; subst ho
 go_simp
 (go_at_call 30; (with_reducible refine (CM.out ta va ja _ bA).mono ?_); rintro e wm ⟨rfl, rm, nm⟩)
 have sm : Nu b W2 wm := sa.trans nm
 refine hK.out _ _ sm (fun _ => ?_)
 clear hK K
 try simp only [Act.put, iT, iZ, iS]
 refine takeT 10 (some 8) ?vp10 ?hyp10 sm ?restp10
 case hyp10 => (intro o ho W hW; simp only [gT, gS, gZ, sI] at ho; subst ho; (try dsimp only at hW); go_simp; try rfl)
 try simp only [Act.put, iT, iZ, iS]
 refine wpAnyH_done (by kernel_rfl) ?_ _
 refine NoPanic.normal ?_
 go_wp2_with fail
 refine bodyPost_ret (v := .int .i64 (D.erO o)) (by simp [results, Tryz.results58, go_sem]) rfl ?_
 exact ⟨rfl, rm, HN2.out.trans sm⟩
set_option maxHeartbeats 8000000 in
theorem place_sel (x : D.Tg) (g b k m c sg kk M : Nat) (f : Nm.D.Nm -> Option D.Vl) (A : Option Addr) (t : ByteArray) (nm : Nm.D.Nm) (z : D.Vl) (w : World) (hbl : b <= w.heap.size) (hG : Rg b g kk f w) (hz : z.N < 18446744073709551616) (ws : List (List Nat)) (ks : List (List D.Nd)) (cs : List (List Nat × Value)) (hr : RF 2 (fun i => i < b) w A m (ccs cs)) (hmn : m <= 1000) (hcw : cs.map (·.1) = ws) (hB8 : D.B8 ws) (hl : ws.length = ks.length) (h1 : ∀ x ∈ cs, ∃ (A : Option Addr) (n c : Nat), x.2 = .slice A n c) (ho : D.othT ∈ ws) (K : List D.Nd -> Option (List Nat)) (hk : k = 4) (hK : ∀ (j : Nat) (t : List Nat) (u : Value) (q : List D.Nd), cs[j]? = some (t, u) -> ks[j]? = some q -> RnC x g b 30 #[vr b, u, .int .u64 (sg : Nat)] w (K q) M) :
  RnC x g b 58 #[vr b, .agg (nS.v ⟨k, t, nm, A, m, c⟩), .agg (vS.v z), .int .u64 (sg : Nat)] w (K (D.kid ws ks (D.ns z.t))) M := by
 intro W L hNu hB hsz
 obtain ⟨Y, hY⟩ : ∃ Y : D.Nv, ⟨k, t, nm, A, m, c⟩ = Y := ⟨_, rfl⟩
 have hY1 : Y.k = k := by rw [<- hY]
 have hY3 : Value.slice Y.A Y.m Y.c = .slice A m c := by rw [<- hY]
 rw [hY]
 clear hY
 have hlt := hB.lt
 obtain ⟨W2, hW2⟩ : ∃ W2, (W.alloc (.cells (nS.v Y) 80)).alloc (.cells (vS.v z) 64) = W2 := ⟨_, rfl⟩
 have sB : Below W.heap.size W W2 := by rw [<- hW2]; exact ((Below.refl _ _).alloc (Nat.le_refl _) _).alloc (by simp) _
 have hG2 : Blk W2 W.heap.size 80 (nS.v Y) := by rw [<- hW2]; exact (Blk.new _ _ _).on (below_alloc_ _ _)
 have hV2 : Blk W2 (W.heap.size + 1) 64 (vS.v z) := by rw [<- hW2]; have := Blk.new (W.alloc (.cells (nS.v Y) 80)) 64 (vS.v z); simpa using this
 have hB2 : Rn x g b W2 L := hB.on sB
 have hN2 : Nu b W W2 := Nu.of_below sB
 have FF : Hid (∀ W', Nu b W2 W' -> W'.cell? ⟨W.heap.size, 0, none⟩ = some (.int .i64 (k : Nat)) ∧ W'.cell? ⟨W.heap.size, 14, none⟩ = some (.slice A m c) ∧ W.heap.size < W'.heap.size ∧ VF W' (W.heap.size + 1) z) := Lib.hid fun W' h => by
  have h1 := h.keep _ _ _ (by omega) (by decide) hG2
  have h2 := h.keep _ _ _ (by omega) (by decide) hV2
  have q := nf_blk h1
  have q1 := q.k; have q2 := q.c
  simp only [Nat.zero_add] at q1 q2
  rw [hY1] at q1; rw [hY3] at q2
  exact ⟨q1, q2, h1.lt, vf_blk h2⟩
 obtain ⟨g0, g1, g2, gv⟩ := FF.out W2 (Nu.refl _ _)
 have g3 := gv.N; have g4 := gv.t; have g5 := gv.l
 have HB2 := Lib.hid hB2
 have HN2 := Lib.hid hN2
 have HNW := Lib.hid (hNu.trans hN2)
 have HGW := Lib.hid (fun W' (h : Nu b W2 W') => hG.out W' ((hNu.trans hN2).trans h))
 have i3 : ((k : Int) == 3) = false := by simp; omega
 have i4 : ((k : Int) == 4) = true := by simp; omega
 have hq := D.kid_at (D.ns z.t) hl ho
 subst hcw
 have CA := Lib.hid (fun W' (h : Below W2.heap.size W2 W') => chosen_any A m c cs z.t W' ((Nu.row (Nu.row hr (hNu.trans hN2)) (Nu.of_below h)).row) hB8 h1 (by omega) ho)
 have CM := Lib.hid (fun (t : List Nat) (v : Value) (hj : cs[D.kix (cs.map (·.1)) (D.ns z.t)]? = some (t, v)) W' (h : Below W2.heap.size W2 W') => hK _ t v _ hj hq W' L ((hNu.trans hN2).trans (Nu.of_below h)) (hB2.on h) hsz)
 obtain ⟨o, hoo⟩ : ∃ o, K (D.kid (cs.map (·.1)) ks (D.ns z.t)) = o := ⟨_, rfl⟩
 rw [hoo] at CM ⊢
 have HBR := Lib.hid (Below.refl W2.heap.size W2)
 have HW2 := Kept.mk hW2
 clear hNu hB hG hz hr hmn hB8 hl h1 ho hK hq hoo hk hY1 hY3 sB hG2 hV2 hB2 hN2 gv
 subst hW2
 go_enter Tryz.func58, Tryz.ntmps58
 go_wp2_with (first
  | (go_at_call 85; (with_reducible refine (CA.out _ HBR.out).mono ?_); rintro e wa ⟨⟨ta, va, ja, rfl⟩, ba⟩; have BA := Lib.hid ba; have JA := Kept.mk ja; clear ba ja)
  | (go_at_call 30; (with_reducible refine (CM.out ta va JA.out _ BA.out).mono ?_); rintro e wm ⟨rfl, rm, nm⟩; have RM := Lib.hid rm; have NM := Lib.hid nm; clear rm nm))
 refine bodyPost_ret (v := .int .i64 (D.erO o)) (by simp [results, Tryz.results58, go_sem]) rfl ?_
 exact ⟨rfl, RM.out, HN2.out.trans ((Nu.of_below BA.out).trans NM.out)⟩
set_option maxHeartbeats 8000000 in
theorem place_txt (x : D.Tg) (g b k m c sg kk M : Nat) (f : Nm.D.Nm -> Option D.Vl) (A : Option Addr) (t : ByteArray) (nm : Nm.D.Nm) (z : D.Vl) (w : World) (hbl : b <= w.heap.size) (hG : Rg b g kk f w) (hz : z.N < 18446744073709551616) (hk : k = 1) (ht : D.ns z.t ≠ []) (hM : (D.ns z.t).length <= M) :
  RnC x g b 58 #[vr b, .agg (nS.v ⟨k, t, nm, A, m, c⟩), .agg (vS.v z), .int .u64 (sg : Nat)] w (some (D.ns z.t)) M := by
 intro W L hNu hB hsz
 obtain ⟨Y, hY⟩ : ∃ Y : D.Nv, ⟨k, t, nm, A, m, c⟩ = Y := ⟨_, rfl⟩
 have hY1 : Y.k = k := by rw [<- hY]
 have hY3 : Value.slice Y.A Y.m Y.c = .slice A m c := by rw [<- hY]
 rw [hY]
 clear hY
 have hlt := hB.lt
 obtain ⟨W2, hW2⟩ : ∃ W2, (W.alloc (.cells (nS.v Y) 80)).alloc (.cells (vS.v z) 64) = W2 := ⟨_, rfl⟩
 have sB : Below W.heap.size W W2 := by rw [<- hW2]; exact ((Below.refl _ _).alloc (Nat.le_refl _) _).alloc (by simp) _
 have hG2 : Blk W2 W.heap.size 80 (nS.v Y) := by rw [<- hW2]; exact (Blk.new _ _ _).on (below_alloc_ _ _)
 have hV2 : Blk W2 (W.heap.size + 1) 64 (vS.v z) := by rw [<- hW2]; have := Blk.new (W.alloc (.cells (nS.v Y) 80)) 64 (vS.v z); simpa using this
 have hB2 : Rn x g b W2 L := hB.on sB
 have hN2 : Nu b W W2 := Nu.of_below sB
 have FF : Hid (∀ W', Nu b W2 W' -> W'.cell? ⟨W.heap.size, 0, none⟩ = some (.int .i64 (k : Nat)) ∧ W'.cell? ⟨W.heap.size, 14, none⟩ = some (.slice A m c) ∧ W.heap.size < W'.heap.size ∧ VF W' (W.heap.size + 1) z) := Lib.hid fun W' h => by
  have h1 := h.keep _ _ _ (by omega) (by decide) hG2
  have h2 := h.keep _ _ _ (by omega) (by decide) hV2
  have q := nf_blk h1
  have q1 := q.k; have q2 := q.c
  simp only [Nat.zero_add] at q1 q2
  rw [hY1] at q1; rw [hY3] at q2
  exact ⟨q1, q2, h1.lt, vf_blk h2⟩
 obtain ⟨g0, g1, g2, gv⟩ := FF.out W2 (Nu.refl _ _)
 have g3 := gv.N; have g4 := gv.t; have g5 := gv.l
 have HB2 := Lib.hid hB2
 have HN2 := Lib.hid hN2
 have HNW := Lib.hid (hNu.trans hN2)
 have HGW := Lib.hid (fun W' (h : Nu b W2 W') => hG.out W' ((hNu.trans hN2).trans h))
 have i3 : ((k : Int) == 3) = false := by simp; omega
 have i4 : ((k : Int) == 4) = false := by simp; omega
 have i1 : ((k : Int) == 1) = true := by simp; omega
 have it : (z.t.toList == []) = false := by
  rw [ByteArray.toList_eq]
  cases h : z.t.data.toList with
  | nil => exact absurd (by rw [D.ns, h]; rfl) ht
  | cons a l => rfl
 have CW := Lib.hid (fun W' (hW : Rn x g b W' L) => writeS_any (rr_bt x g) z.t hW ht (by rw [size_ns]; omega))
 have HW2 := Kept.mk hW2
 clear hNu hB hG hz hk hY1 hY3 sB hG2 hV2 hB2 hN2 gv ht hM
 subst hW2
 go_enter Tryz.func58, Tryz.ntmps58
 go_wp2_with fail
 obtain ⟨W2, hW2⟩ : ∃ W2, ((W.alloc (.cells (nS.v Y) 80)).alloc (.cells (vS.v z) 64)) = W2 := ⟨_, rfl⟩
 rw [hW2] at HB2 HN2 HNW HGW FF ⊢
 refine wp_region_noPanic ?_
 refine wp_region_held_drew (S := fun W' => Nu b W2 W' ∧ b < W'.heap.size) (by kernel_rfl) ⟨Nu.of_below ((Below.refl _ _).drew), HB2.out.lt⟩ (fun _ => ?_)
 obtain ⟨wd, hwd⟩ : ∃ wd, W2.drew = wd := ⟨_, rfl⟩
 have bd : Below W2.heap.size W2 wd := by rw [<- hwd]; exact (Below.refl _ _).drew
 have sd : Nu b W2 wd ∧ b < wd.heap.size := ⟨Nu.of_below bd, Nat.lt_of_lt_of_le HB2.out.lt bd.size⟩
 rw [hwd]
 clear hwd
 refine takeT 0 (some 48) ?vt0 ?hyt0 sd ?restt0
 case hyt0 => (intro o ho W hW; simp only [gT, gS, gZ, sI] at ho; subst ho; (try dsimp only at hW); obtain ⟨q0, q1, q2, qv⟩ := FF.out _ hW.1; have q3 := qv.N; have q4 := qv.t; have q5 := qv.l; have q6 := hW.2; go_simp; try rfl)
 try simp only [Act.put, iT, iZ, iS]
 refine takeT 1 (some 49) ?vt1 ?hyt1 sd ?restt1
 case hyt1 => (intro o ho W hW; simp only [gT, gS, gZ, sI] at ho; subst ho; (try dsimp only at hW); obtain ⟨q0, q1, q2, qv⟩ := FF.out _ hW.1; have q3 := qv.N; have q4 := qv.t; have q5 := qv.l; have q6 := hW.2; go_simp; try rfl)
 try simp only [Act.put, iT, iZ, iS]
 refine takeT 2 (some 50) ?vt2 ?hyt2 sd ?restt2
 case hyt2 => (intro o ho W hW; simp only [gT, gS, gZ, sI] at ho; subst ho; (try dsimp only at hW); obtain ⟨q0, q1, q2, qv⟩ := FF.out _ hW.1; have q3 := qv.N; have q4 := qv.t; have q5 := qv.l; have q6 := hW.2; go_simp; try rfl)
 try simp only [Act.put, iT, iZ, iS]
 refine takeT 3 (some 51) ?vt3 ?hyt3 sd ?restt3
 case hyt3 => (intro o ho W hW; simp only [gT, gS, gZ, sI] at ho; subst ho; (try dsimp only at hW); obtain ⟨q0, q1, q2, qv⟩ := FF.out _ hW.1; have q3 := qv.N; have q4 := qv.t; have q5 := qv.l; have q6 := hW.2; go_simp; try rfl)
 try simp only [Act.put, iT, iZ, iS]
 refine takeT 4 (some 52) ?vt4 ?hyt4 sd ?restt4
 case hyt4 => (intro o ho W hW; simp only [gT, gS, gZ, sI] at ho; subst ho; (try dsimp only at hW); obtain ⟨q0, q1, q2, qv⟩ := FF.out _ hW.1; have q3 := qv.N; have q4 := qv.t; have q5 := qv.l; have q6 := hW.2; go_simp; try rfl)
 try simp only [Act.put, iT, iZ, iS]
 refine nextS 5 (by kernel_rfl) (by rfl) (fun o ho K hK => ?_)
 simp only [gT, gS, gZ, sI] at ho; subst ho
 go_simp
 (go_at_call 56; (with_reducible refine (CW.out _ (HB2.out.on bd)).mono ?_); rintro e ww ⟨rfl, bw, nw⟩)
 have sw : Nu b W2 ww ∧ b < ww.heap.size := ⟨sd.1.trans nw, bw.lt⟩
 have HBw := Lib.hid bw
 clear bw nw
 refine hK.out _ _ sw (fun _ => ?_)
 clear hK K
 try simp only [Act.put, iT, iZ, iS]
 refine wpAnyH_done (by kernel_rfl) ?_ _
 refine NoPanic.normal ?_
 go_wp2_with fail
 refine bodyPost_ret (v := .int .i64 0) (by simp [results, Tryz.results58, go_sem]) rfl ?_
 exact ⟨rfl, (fun q e => by injection e with e; rw [<- e]; exact HBw.out), HN2.out.trans sw.1⟩
set_option maxHeartbeats 8000000 in
theorem place_num (x : D.Tg) (g b k m c sg kk M : Nat) (f : Nm.D.Nm -> Option D.Vl) (A : Option Addr) (t : ByteArray) (nm : Nm.D.Nm) (z : D.Vl) (w : World) (hbl : b <= w.heap.size) (hG : Rg b g kk f w) (hz : z.N < 18446744073709551616) (hk : k = 1 ∧ D.ns z.t = [] ∨ k = 2) (hM : 20 <= M) :
  RnC x g b 58 #[vr b, .agg (nS.v ⟨k, t, nm, A, m, c⟩), .agg (vS.v z), .int .u64 (sg : Nat)] w (some (D.dg z.N)) M := by
 intro W L hNu hB hsz
 obtain ⟨Y, hY⟩ : ∃ Y : D.Nv, ⟨k, t, nm, A, m, c⟩ = Y := ⟨_, rfl⟩
 have hY1 : Y.k = k := by rw [<- hY]
 have hY3 : Value.slice Y.A Y.m Y.c = .slice A m c := by rw [<- hY]
 rw [hY]
 clear hY
 have hlt := hB.lt
 obtain ⟨W2, hW2⟩ : ∃ W2, (W.alloc (.cells (nS.v Y) 80)).alloc (.cells (vS.v z) 64) = W2 := ⟨_, rfl⟩
 have sB : Below W.heap.size W W2 := by rw [<- hW2]; exact ((Below.refl _ _).alloc (Nat.le_refl _) _).alloc (by simp) _
 have hG2 : Blk W2 W.heap.size 80 (nS.v Y) := by rw [<- hW2]; exact (Blk.new _ _ _).on (below_alloc_ _ _)
 have hV2 : Blk W2 (W.heap.size + 1) 64 (vS.v z) := by rw [<- hW2]; have := Blk.new (W.alloc (.cells (nS.v Y) 80)) 64 (vS.v z); simpa using this
 have hB2 : Rn x g b W2 L := hB.on sB
 have hN2 : Nu b W W2 := Nu.of_below sB
 have FF : Hid (∀ W', Nu b W2 W' -> W'.cell? ⟨W.heap.size, 0, none⟩ = some (.int .i64 (k : Nat)) ∧ W'.cell? ⟨W.heap.size, 14, none⟩ = some (.slice A m c) ∧ W.heap.size < W'.heap.size ∧ VF W' (W.heap.size + 1) z) := Lib.hid fun W' h => by
  have h1 := h.keep _ _ _ (by omega) (by decide) hG2
  have h2 := h.keep _ _ _ (by omega) (by decide) hV2
  have q := nf_blk h1
  have q1 := q.k; have q2 := q.c
  simp only [Nat.zero_add] at q1 q2
  rw [hY1] at q1; rw [hY3] at q2
  exact ⟨q1, q2, h1.lt, vf_blk h2⟩
 obtain ⟨g0, g1, g2, gv⟩ := FF.out W2 (Nu.refl _ _)
 have g3 := gv.N; have g4 := gv.t; have g5 := gv.l
 have HB2 := Lib.hid hB2
 have HN2 := Lib.hid hN2
 have HNW := Lib.hid (hNu.trans hN2)
 have HGW := Lib.hid (fun W' (h : Nu b W2 W') => hG.out W' ((hNu.trans hN2).trans h))
 have i3 : ((k : Int) == 3) = false := by simp; omega
 have i4 : ((k : Int) == 4) = false := by simp; omega
 have CW := Lib.hid (fun (_ : True) => number_any x g b z.N W2 L hz hB2 ((hG.out _ (hNu.trans hN2)).2.1) (by omega))
 have HW2 := Kept.mk hW2
 clear hNu hB hG hz hY1 hY3 sB hG2 hV2 hB2 hN2 gv hM
 subst hW2
 rcases hk with ⟨hk, ht⟩ | hk
 ·have i1 : ((k : Int) == 1) = true := by simp; omega
  have it : (z.t.toList == []) = true := by
   rw [ByteArray.toList_eq]
   cases h : z.t.data.toList with
   | nil => rfl
   | cons a l => exact absurd ht (by rw [D.ns, h]; simp)
  clear hk ht
  go_enter Tryz.func58, Tryz.ntmps58
  go_wp2_with (go_at_call 57; (with_reducible refine (CW.out trivial).mono ?_); rintro e w2 ⟨rfl, hb2, hn2⟩; have B2 := Lib.hid hb2; have N2 := Lib.hid hn2; clear hb2 hn2)
  refine bodyPost_ret (v := .int .i64 0) (by simp [results, Tryz.results58, go_sem]) rfl ?_
  exact ⟨rfl, (fun q e => by injection e with e; rw [<- e]; exact B2.out), HN2.out.trans N2.out⟩
 ·have i1 : ((k : Int) == 1) = false := by simp; omega
  clear hk
  go_enter Tryz.func58, Tryz.ntmps58
  go_wp2_with (go_at_call 57; (with_reducible refine (CW.out trivial).mono ?_); rintro e w2 ⟨rfl, hb2, hn2⟩; have B2 := Lib.hid hb2; have N2 := Lib.hid hn2; clear hb2 hn2)
  refine bodyPost_ret (v := .int .i64 0) (by simp [results, Tryz.results58, go_sem]) rfl ?_
  exact ⟨rfl, (fun q e => by injection e with e; rw [<- e]; exact B2.out), HN2.out.trans N2.out⟩
end Go.Proofs.YtgnjjlgmlokhmaaGreatDoor
namespace Go.Proofs.YtgnjjlgmlokhmaaGreatDoor
open Go.RowKit

namespace D
theorem okWd_cat : ∀ {a ws : List (List Nat)}, okWd 3 a ws -> ∀ t ∈ ws, t ∈ catW
 | _, [], _, t, h => by cases h
 | a, w :: ws, h, t, ht => by
  obtain ⟨_, _, h3, h4⟩ := h
  rcases List.mem_cons.1 ht with rfl | ht
  ·unfold lgl at h3
   split at h3
   ·cases h3
   ·rename_i hn
    exact Classical.byContradiction fun hc => hn (.inl ⟨rfl, hc⟩)
  ·exact okWd_cat h4 t ht
def Vok (vf : List Nat -> Option (Nat × List Nat)) : Prop := ∀ n a, vf n = some a -> a.1 < 18446744073709551616 ∧ a.2.length <= 20
theorem rnN_le {g : Nat} {vf : List Nat -> Option (Nat × List Nat)} {K : Nat -> List Nd -> Option (List Nat)} {s : Nat} {ch : Bool} {kids : Bool -> List Nd -> Prop} {v : Bool} {x : Nd} (hV : Vok vf) (hs : s < 18446744073709551616) (hx : okNd ch kids v x)
  (hK : ∀ s' q, s' < 18446744073709551616 -> ch = true -> q ∈ x.ks -> ∀ a, K s' q = some a -> a.length <= 20 * (prL q).length) : ∀ a, rnN g vf K s x = some a -> a.length <= 20 * (prN x).length := by
 intro a ha
 unfold rnN at ha
 rcases hx with ⟨hk, _, _, _, h⟩ | ⟨h, _⟩ | ⟨hk, _, _, _, _⟩ | ⟨hk, hch, ht, hnb, hll, ho, hwd, hkd⟩
 ·rw [if_pos hk] at ha
  injection ha with ha
  rw [<- ha, prN_txt hk]; omega
 ·have hk : x.k = 5 := by rw [h]; rfl
  rw [if_neg (by omega), if_pos hk] at ha
  injection ha with ha
  have h1 := (dg_len s hs).1
  have h2 : (prN x).length = 1 := by rw [h, prN_sign]; rfl
  rw [<- ha, h2]
  omega
 ·have h1 : 1 <= (prN x).length := by
   obtain ⟨k, t, n, ws, ks⟩ := x
   simp only [Nd.k] at hk
   rcases hk with rfl | rfl <;> simp [prN] <;> omega
  rw [if_neg (by omega), if_neg (by omega)] at ha
  cases hv : vf x.n with
  | none => rw [hv] at ha; cases ha
  | some p =>
   obtain ⟨N, T⟩ := p
   rw [hv] at ha
   obtain ⟨h2, h3⟩ := hV _ _ hv
   simp only at ha h2 h3
   rw [if_neg (by omega), if_neg (by omega)] at ha
   have h4 := (dg_len N h2).1
   split at ha
   ·injection ha with ha; rw [<- ha]; omega
   ·injection ha with ha; rw [<- ha]; omega
 ·rw [if_neg (by omega), if_neg (by omega)] at ha
  cases hv : vf x.n with
  | none => rw [hv] at ha; cases ha
  | some p =>
   obtain ⟨N, T⟩ := p
   rw [hv] at ha
   obtain ⟨h2, h3⟩ := hV _ _ hv
   simp only at ha h2 h3
   have hb : ∀ s' t, s' < 18446744073709551616 -> K s' (kid x.ws x.ks t) = some a -> a.length <= 20 * (prN x).length := fun s' t hs' e => by
    have hq := kid_at t hll ho
    have h1 := hK s' _ hs' hch (List.mem_of_getElem? hq) a e
    have h2 := prC_at hll hq
    have h3 := prN_cas hk
    omega
   split at ha
   ·exact hb _ _ h2 ha
   ·split at ha
    ·exact hb _ _ hs ha
    ·rename_i e3 e4
     rcases hk with hk | hk
     ·exact absurd hk e3
     ·exact absurd hk e4
theorem rnd_le {g : Nat} {vf : List Nat -> Option (Nat × List Nat)} (hV : Vok vf) : ∀ (r : Nat) {v : Bool} {s : Nat} {l : List Nd}, s < 18446744073709551616 -> Rt r v l -> ∀ t, rnd g vf r s l = some t -> t.length <= 20 * (prL l).length
 | 0, v, s, l, hs, hR => fun t ht => rnL_le (N := rnN g vf (fun _ _ => none) s) (fun x hx => by
   obtain ⟨j, hj, e⟩ := List.mem_iff_getElem.1 hx
   have h1 := (okLs_at hR (show l[j]? = some x by rw [List.getElem?_eq_getElem hj, e])).1
   exact rnN_le hV hs h1 (fun s' q _ h => by cases h)) t ht
 | r + 1, v, s, l, hs, hR => fun t ht => rnL_le (N := rnN g vf (rnd g vf r) s) (fun x hx => by
   obtain ⟨j, hj, e⟩ := List.mem_iff_getElem.1 hx
   have h1 := (okLs_at hR (show l[j]? = some x by rw [List.getElem?_eq_getElem hj, e])).1
   refine rnN_le hV hs h1 (fun s' q hs' _ hq a ha => ?_)
   rcases h1 with ⟨_, _, _, h, _⟩ | ⟨h, _⟩ | ⟨_, _, _, h, _⟩ | ⟨_, _, _, _, _, _, _, h⟩
   ·rw [h] at hq; cases hq
   ·rw [h] at hq; cases hq
   ·rw [h] at hq; cases hq
   ·exact rnd_le hV r hs' (h q hq) a ha) t ht
def vfo (f : Nm.D.Nm -> Option Vl) (n : List Nat) : Option (Nat × List Nat) := (f (Nm.D.pad (sb n))).map fun z => (z.N, ns z.t)
def Vfk (f : Nm.D.Nm -> Option Vl) : Prop := ∀ n z, f n = some z -> z.N < 18446744073709551616 ∧ (ns z.t).length <= 20
theorem vfo_ok {f : Nm.D.Nm -> Option Vl} (h : Vfk f) : Vok (vfo f) := fun n a ha => by
 unfold vfo at ha
 cases hf : f (Nm.D.pad (sb n)) with
 | none => rw [hf] at ha; cases ha
 | some z =>
  rw [hf] at ha
  injection ha with ha
  subst ha
  exact h _ z hf
end D
theorem rend_place (x : D.Tg) (g b kk sg r : Nat) (f : Nm.D.Nm -> Option D.Vl) (w : World) (hbl : b <= w.heap.size) (hG : Rg b g kk f w) (hsg : sg < 18446744073709551616) (hV : D.Vfk f) (ch : Bool) (kids : Bool -> List D.Nd -> Prop) (v : Bool) (K : Nat -> List D.Nd -> Option (List Nat)) (y : D.Nd) (p : D.Sl)
  (hx : D.okNd ch kids v y) (hP : Pel (Pk (fun i => i < b) w r) (fun i => i < b) w y p) (hsz : (D.prN y).length <= 1000) (h0 : y.k ≠ 0) (h5 : y.k ≠ 5)
  (hK : ∀ s' u q, s' < 18446744073709551616 -> ch = true -> q ∈ y.ks -> Pk (fun i => i < b) w r u q -> (D.prL q).length <= (D.prN y).length -> RnC x g b 30 #[vr b, u, .int .u64 (s' : Nat)] w (K s' q) (20 * (D.prN y).length)) (hsl : ∀ u q, Pk (fun i => i < b) w r u q -> ∃ (A : Option Addr) (n c : Nat), u = .slice A n c) :
  (f (D.pnm y) = none -> D.rnN (D.gr x) (D.vfo f) K sg y = none) ∧ ∀ z, f (D.pnm y) = some z -> RnC x g b 58 #[vr b, .agg (nS.v (nv y p.A p.m p.c)), .agg (vS.v z), .int .u64 (sg : Nat)] w (D.rnN (D.gr x) (D.vfo f) K sg y) (20 * (D.prN y).length) := by
 have hvf : D.vfo f y.n = (f (D.pnm y)).map fun z => (z.N, D.ns z.t) := rfl
 refine ⟨fun hn => ?_, fun z hz => ?_⟩
 ·unfold D.rnN
  rw [if_neg h0, if_neg h5, hvf, hn]
  rfl
 ·obtain ⟨hzN, hzt⟩ := hV _ z hz
  have e0 : D.rnN (D.gr x) (D.vfo f) K sg y = if y.k = 3 then K z.N (D.kid y.ws y.ks (D.catW.getD (D.pof (D.gr x) z.N) [])) else if y.k = 4 then K sg (D.kid y.ws y.ks (D.ns z.t)) else if y.k = 1 ∧ D.ns z.t ≠ [] then some (D.ns z.t) else some (D.dg z.N) := by
   unfold D.rnN
   rw [if_neg h0, if_neg h5, hvf, hz]
   rfl
  rw [e0]
  show RnC x g b _ #[vr b, .agg (nS.v ⟨y.k, D.sb y.t, D.pnm y, p.A, p.m, p.c⟩), _, _] w _ _
  rcases hx with ⟨h, _⟩ | ⟨h, _⟩ | ⟨hk, _, _, _, _⟩ | ⟨hk, hch, _, hnb, hll, ho, hwd, hkd⟩
  ·exact absurd h h0
  ·rw [h] at h5; exact absurd rfl h5
  ·have h1 : 1 <= (D.prN y).length := by
    obtain ⟨k, t, n, ws, ks⟩ := y
    simp only [D.Nd.k] at hk
    rcases hk with rfl | rfl <;> simp [D.prN] <;> omega
   rw [if_neg (by omega), if_neg (by omega)]
   by_cases ht : y.k = 1 ∧ D.ns z.t ≠ []
   ·rw [if_pos ht]
    exact place_txt x g b y.k p.m p.c sg kk _ f p.A _ _ z w hbl hG hzN ht.1 ht.2 (by omega)
   ·rw [if_neg ht]
    refine place_num x g b y.k p.m p.c sg kk _ f p.A _ _ z w hbl hG hzN ?_ (by omega)
    rcases hk with hk | hk
    ·exact .inl ⟨hk, Classical.byContradiction fun e => ht ⟨hk, e⟩⟩
    ·exact .inr hk
  ·obtain ⟨hbt, hcap, cs, hrc, hcw, h1c, hcl, hkk⟩ := hP
   have hmn : p.m <= 1000 := by
    have h1 := hrc.row.len
    simp only [ccs_len] at h1
    have h2 := D.prC_lenw hll
    have h3 := D.prN_cas hk
    omega
   have hs : ∀ u ∈ cs, ∃ (A : Option Addr) (n c : Nat), u.2 = .slice A n c := fun u hu => by
    obtain ⟨j, hj, e⟩ := List.mem_iff_getElem.1 hu
    have hu' : cs[j]? = some (u.1, u.2) := by rw [List.getElem?_eq_getElem hj, e]
    exact hsl _ _ (hkk j _ _ _ hu' (List.getElem?_eq_getElem (by omega)))
   have hKK : ∀ s', s' < 18446744073709551616 -> ∀ (j : Nat) (t : List Nat) (u : Value) (q : List D.Nd), cs[j]? = some (t, u) -> y.ks[j]? = some q -> RnC x g b 30 #[vr b, u, .int .u64 (s' : Nat)] w (K s' q) (20 * (D.prN y).length) := fun s' hs' j t u q hc hq => by
    have h2 := D.prC_at hll hq
    have h3 := D.prN_cas hk
    exact hK s' u q hs' hch (List.mem_of_getElem? hq) (hkk j t u q hc hq) (by omega)
   by_cases h3 : y.k = 3
   ·rw [if_pos h3]
    exact place_plu x g b y.k p.m p.c sg kk _ f p.A _ _ z w hbl hG hzN y.ws y.ks cs hrc hmn hcw hbt.2.2 hll hs ho (K z.N) h3 (D.okWd_cat (h3 ▸ hwd)) (hKK z.N hzN)
   ·rw [if_neg h3, if_pos (by omega)]
    exact place_sel x g b y.k p.m p.c sg kk _ f p.A _ _ z w hbl hG hzN y.ws y.ks cs hrc hmn hcw hbt.2.2 hll hs ho (K sg) (by omega) (hKK sg hsg)
theorem pm_slice {F : Nat -> Prop} {w : World} {r : Nat} {u : Value} {l : List D.Nd} (h : Pm F w r u l) : ∃ (A : Option Addr) (n c : Nat), u = .slice A n c := by
 obtain ⟨A, n, c, _, e, _⟩ := (Pm_eq F w r _ _).1 h
 exact ⟨A, n, c, e⟩
theorem rend_any (x : D.Tg) (g b kk : Nat) (f : Nm.D.Nm -> Option D.Vl) (hV : D.Vfk f) : ∀ (r : Nat) (v : Bool) (sg : Nat) (w : World) (u : Value) (l : List D.Nd), Pm (fun i => i < b) w r u l -> D.Rt r v l -> (D.prL l).length <= 1000 -> b <= w.heap.size -> Rg b g kk f w -> sg < 18446744073709551616 ->
  RnC x g b 30 #[vr b, u, .int .u64 (sg : Nat)] w (D.rnd (D.gr x) (D.vfo f) r sg l) (20 * (D.prL l).length)
 | 0, v, sg, w, u, l, hP, hR, hsz, hbl, hG, hsg => by
  obtain ⟨A, n, c, vs, rfl, hc, hr, hl, hb⟩ := (Pm_eq _ w 0 _ _).1 hP
  have hn : n <= 1000 := by
   have h1 := hr.row.len
   rw [Shp.rcs_len, nvs_len, show nS.n = 15 from rfl] at h1
   have h2 := D.len_le hR
   have h3 : l.length = vs.length := by rw [<- hl]; simp
   omega
  show RnC x g b _ _ w (D.rnL _ l) _
  rw [<- hl]
  refine message_row x g b n c sg kk f A vs w _ hr hn hbl hsg hG (fun j y p hj hk => ?_) (fun j y p hj hk => ?_) (fun j y p hj => ?_) (fun j y p hj h0 h5 => ?_)
  ·have h1 := (D.okLs_at hR (vs_list hl hj)).1
   rcases h1 with ⟨_, _, _, _, h, _⟩ | ⟨h, _⟩ | ⟨h, _⟩ | ⟨h, _⟩
   ·exact ⟨h, (hb j y p hj).1.1, by unfold D.rnN; rw [if_pos hk]⟩
   ·rw [h] at hk; cases hk
   ·omega
   ·omega
  ·unfold D.rnN; rw [if_neg (by omega), if_pos hk]
  ·exact D.rnN_le (D.vfo_ok hV) hsg (D.okLs_at hR (vs_list hl hj)).1 (fun s' q _ h => by cases h)
  ·have hx := vs_list hl hj
   have hxs := D.prL_mem (List.mem_of_getElem? hx)
   exact rend_place x g b kk sg 0 f w hbl hG hsg hV false (fun _ _ => False) v _ y p (D.okLs_at hR hx).1 (hb j y p hj) (by omega) h0 h5 (fun s' u q _ h => by cases h) (fun u q h => h.elim)
 | r + 1, v, sg, w, u, l, hP, hR, hsz, hbl, hG, hsg => by
  obtain ⟨A, n, c, vs, rfl, hc, hr, hl, hb⟩ := (Pm_eq _ w (r + 1) _ _).1 hP
  have hn : n <= 1000 := by
   have h1 := hr.row.len
   rw [Shp.rcs_len, nvs_len, show nS.n = 15 from rfl] at h1
   have h2 := D.len_le hR
   have h3 : l.length = vs.length := by rw [<- hl]; simp
   omega
  show RnC x g b _ _ w (D.rnL _ l) _
  have hl' := hl
  rw [<- hl]
  have hkd : ∀ (j : Nat) (y : D.Nd) (p : D.Sl), vs[j]? = some (y, p) -> ∀ q ∈ y.ks, D.Rt r (v || y.k == 3) q := fun j y p hj q hq => by
   rcases (D.okLs_at hR (vs_list hl hj)).1 with ⟨_, _, _, h, _⟩ | ⟨h, _⟩ | ⟨_, _, _, h, _⟩ | ⟨_, _, _, _, _, _, _, h⟩
   ·rw [h] at hq; cases hq
   ·rw [h] at hq; cases hq
   ·rw [h] at hq; cases hq
   ·exact h q hq
  refine message_row x g b n c sg kk f A vs w _ hr hn hbl hsg hG (fun j y p hj hk => ?_) (fun j y p hj hk => ?_) (fun j y p hj => ?_) (fun j y p hj h0 h5 => ?_)
  ·have h1 := (D.okLs_at hR (vs_list hl hj)).1
   rcases h1 with ⟨_, _, _, _, h, _⟩ | ⟨h, _⟩ | ⟨h, _⟩ | ⟨h, _⟩
   ·exact ⟨h, (hb j y p hj).1.1, by unfold D.rnN; rw [if_pos hk]⟩
   ·rw [h] at hk; cases hk
   ·omega
   ·omega
  ·unfold D.rnN; rw [if_neg (by omega), if_pos hk]
  ·exact D.rnN_le (D.vfo_ok hV) hsg (D.okLs_at hR (vs_list hl hj)).1 (fun s' q hs' _ hq a ha => D.rnd_le (D.vfo_ok hV) r hs' (hkd j y p hj q hq) a ha)
  ·have hx := vs_list hl hj
   have hxs := D.prL_mem (List.mem_of_getElem? hx)
   have hxz : (D.prL l).length <= 1000 := hsz
   refine rend_place x g b kk sg (r + 1) f w hbl hG hsg hV true (D.Rt r) v _ y p (D.okLs_at hR hx).1 (hb j y p hj) (by omega) h0 h5 (fun s' u q hs' _ hq hPq hle => ?_) (fun u q h => pm_slice (show Pm _ w r u q from h))
   exact (rend_any x g b kk f hV r (v || y.k == 3) s' w u q hPq (hkd j y p hj q hq) (by omega) hbl hG hs').most (by omega)
end Go.Proofs.YtgnjjlgmlokhmaaGreatDoor
namespace Go.Proofs.YtgnjjlgmlokhmaaGreatDoor
open Go.RowKit
attribute [local go_sem ↓] Go.wp_at_zero Go.wp_at_succ Nm.ld_a Nm.ld_n Nm.st_a Nm.st_n Nm.lv_a Nm.lv_n ld_vl lv_vl st_vl ld_a lv_a
attribute [local go_sem] Nm.run_ld_a Nm.run_ld_n Nm.run_lv_a Nm.run_lv_n Nm.rd_new Nm.rd_old Nm.rd_drew Nm.rd_drewN Nm.st_z Shp.rd_new Shp.rd_old Shp.rd_drew Shp.rd_drewN run_lvvl run_ldvl run_stvl_new run_ld_a run_lv_a rd_new rd_old rd_drew rd_drewN

namespace D
theorem prC_mem : ∀ {ws : List (List Nat)} {ks : List (List Nd)} {j : Nat} {q : List Nd} {c : Nat}, ws.length = ks.length -> ks[j]? = some q -> c ∈ prL q -> c ∈ prC ws ks
 | [], [], j, q, c, _, h, _ => by simp at h
 | [], k :: ks, j, q, c, h, _, _ => by simp at h
 | w :: ws, [], j, q, c, h, _, _ => by simp at h
 | w :: ws, k :: ks, 0, q, c, _, h, hc => by
  simp at h
  subst h
  simp [prC, hc]
 | w :: ws, k :: ks, j + 1, q, c, hl, h, hc => by
  have := prC_mem (ws := ws) (ks := ks) (j := j) (q := q) (by simpa using hl) (by simpa using h) hc
  simp [prC, this]
theorem prN_mem {x : Nd} (hk : x.k = 3 ∨ x.k = 4) {c : Nat} (h : c ∈ prC x.ws x.ks) : c ∈ prN x := by
 obtain ⟨k, t, n, ws, ks⟩ := x
 simp only [Nd.k] at hk
 simp only [Nd.ws, Nd.ks] at h
 rcases hk with rfl | rfl
 ·simp [prN, h]
 ·simp [prN, h]
theorem dg_256 (n : Nat) : ∀ c ∈ dg n, c < 256 := by
 intro c hc
 obtain ⟨u, _, rfl⟩ := List.mem_map.1 hc
 exact UInt8.toNat_lt u
theorem prL_in : ∀ {l : List Nd} {x : Nd} {c : Nat}, x ∈ l -> c ∈ prN x -> c ∈ prL l
 | y :: l, x, c, h, hc => by
  rw [prL, List.mem_append]
  rcases List.mem_cons.1 h with rfl | h
  ·exact .inl hc
  ·exact .inr (prL_in h hc)
def Vby (vf : List Nat -> Option (Nat × List Nat)) : Prop := ∀ n a, vf n = some a -> ∀ c ∈ a.2, c < 256
theorem rnL_256 {N : Nd -> Option (List Nat)} : ∀ {l : List Nd}, (∀ x ∈ l, ∀ a, N x = some a -> ∀ c ∈ a, c < 256) -> ∀ t, rnL N l = some t -> ∀ c ∈ t, c < 256
 | [], _, t, h => by simp [rnL] at h; subst h; simp
 | x :: l, hN, t, h => by
  simp only [rnL] at h
  cases ha : N x with
  | none => rw [ha] at h; cases h
  | some a =>
   rw [ha] at h
   cases hb : rnL N l with
   | none => rw [hb] at h; cases h
   | some b =>
    rw [hb] at h
    simp at h
    subst h
    intro c hc
    rcases List.mem_append.1 hc with hc | hc
    ·exact hN x (by simp) a ha c hc
    ·exact rnL_256 (fun y hy => hN y (by simp [hy])) b hb c hc
theorem rnN_256 {g : Nat} {vf : List Nat -> Option (Nat × List Nat)} {K : Nat -> List Nd -> Option (List Nat)} {s : Nat} {ch : Bool} {kids : Bool -> List Nd -> Prop} {v : Bool} {x : Nd} (hV : Vby vf) (hx : okNd ch kids v x) (h8 : ∀ c ∈ prN x, c < 256)
  (hK : ∀ s' q, ch = true -> q ∈ x.ks -> (∀ c ∈ prL q, c < 256) -> ∀ a, K s' q = some a -> ∀ c ∈ a, c < 256) : ∀ a, rnN g vf K s x = some a -> ∀ c ∈ a, c < 256 := by
 intro a ha
 unfold rnN at ha
 split at ha
 ·rename_i hk
  injection ha with ha
  rw [prN_txt hk, ha] at h8
  exact h8
 ·split at ha
  ·injection ha with ha
   rw [<- ha]
   exact dg_256 s
  ·cases hv : vf x.n with
   | none => rw [hv] at ha; cases ha
   | some p =>
    obtain ⟨N, T⟩ := p
    rw [hv] at ha
    have h2 := hV _ _ hv
    simp only at ha h2
    have hb : ∀ s' t, x.k = 3 ∨ x.k = 4 -> K s' (kid x.ws x.ks t) = some a -> ∀ c ∈ a, c < 256 := fun s' t hk e => by
     rcases hx with ⟨h, _⟩ | ⟨h, _⟩ | ⟨h, _⟩ | ⟨_, hch, _, _, hll, ho, _, _⟩
     ·omega
     ·rw [h] at hk; rcases hk with hk | hk <;> cases hk
     ·omega
     ·have hq := kid_at t hll ho
      exact hK s' _ hch (List.mem_of_getElem? hq) (fun c hc => h8 c (prN_mem hk (prC_mem hll hq hc))) a e
    split at ha
    ·rename_i h3
     exact hb _ _ (.inl h3) ha
    ·split at ha
     ·rename_i h4
      exact hb _ _ (.inr h4) ha
     ·split at ha
      ·injection ha with ha; rw [<- ha]; exact h2
      ·injection ha with ha; rw [<- ha]; exact dg_256 N
theorem rnd_256 {g : Nat} {vf : List Nat -> Option (Nat × List Nat)} (hV : Vby vf) : ∀ (r : Nat) {v : Bool} {s : Nat} {l : List Nd}, Rt r v l -> (∀ c ∈ prL l, c < 256) -> ∀ t, rnd g vf r s l = some t -> ∀ c ∈ t, c < 256
 | 0, v, s, l, hR, h8 => fun t ht => rnL_256 (N := rnN g vf (fun _ _ => none) s) (fun x hx => by
   obtain ⟨j, hj, e⟩ := List.mem_iff_getElem.1 hx
   have h1 := (okLs_at hR (show l[j]? = some x by rw [List.getElem?_eq_getElem hj, e])).1
   exact rnN_256 hV h1 (fun c hc => h8 c (prL_in hx hc)) (fun s' q h => by cases h)) t ht
 | r + 1, v, s, l, hR, h8 => fun t ht => rnL_256 (N := rnN g vf (rnd g vf r) s) (fun x hx => by
   obtain ⟨j, hj, e⟩ := List.mem_iff_getElem.1 hx
   have h1 := (okLs_at hR (show l[j]? = some x by rw [List.getElem?_eq_getElem hj, e])).1
   refine rnN_256 hV h1 (fun c hc => h8 c (prL_in hx hc)) (fun s' q _ hq hq8 a ha => ?_)
   rcases h1 with ⟨_, _, _, h, _⟩ | ⟨h, _⟩ | ⟨_, _, _, h, _⟩ | ⟨_, _, _, _, _, _, _, h⟩
   ·rw [h] at hq; cases hq
   ·rw [h] at hq; cases hq
   ·rw [h] at hq; cases hq
   ·exact rnd_256 hV r (h q hq) hq8 a ha) t ht
theorem vfo_by (f : Nm.D.Nm -> Option Vl) : Vby (vfo f) := fun n a ha => by
 unfold vfo at ha
 cases hf : f (Nm.D.pad (sb n)) with
 | none => rw [hf] at ha; cases ha
 | some z =>
  rw [hf] at ha
  injection ha with ha
  subst ha
  exact ns_lt z.t
def fvs (l : List Vl) : Nm.D.Nm -> Option Vl := l.foldl (fun f y x => if x = y.n then some y else f x) fun _ => none
theorem fvs_snoc (l : List Vl) (y : Vl) : fvs (l ++ [y]) = fun x => if x = y.n then some y else fvs l x := by simp [fvs]
theorem fvs_in (l : List Vl) (x : Nm.D.Nm) (z : Vl) (h : fvs l x = some z) : z ∈ l := by
 revert h
 have : ∀ (k : List Vl) , fvs k.reverse x = some z -> z ∈ k.reverse := by
  intro k
  induction k with
  | nil => intro h; simp [fvs] at h
  | cons y k ih =>
   intro h
   rw [List.reverse_cons, fvs_snoc] at h
   simp only at h
   split at h
   ·injection h with h; subst h; simp
   ·rw [List.reverse_cons]; exact List.mem_append_left _ (ih h)
 have h2 := this l.reverse
 rw [List.reverse_reverse] at h2
 exact h2
def ansO : Option (List Nat) -> List Nat × Nat
 | some t => (t, 0)
 | none => ([], 7)
def renA (g : Nat) (vf : List Nat -> Option (Nat × List Nat)) (l : List Nd) : List Nat × Nat := if 60 < (prL l).length then ([], 2) else ansO (rnd g vf 3 0 l)
end D
def rn0 (x : D.Tg) (g : Nat) : Array Value := (.pointer none :: .slice none 0 0 :: Rr x g).toArray
theorem rn0_size (x : D.Tg) (g : Nat) : (rn0 x g).size = 13 := by simp only [rn0, List.size_toArray, List.length_cons, rr_len]
theorem rn0_one (x : D.Tg) (g : Nat) : (rn0 x g).all (·.oneCell') = true := all_oneCell_toArray fun u hu => by
 simp only [List.mem_cons, Rr, List.mem_append, List.not_mem_nil, or_false] at hu
 rcases hu with rfl | rfl | hu | rfl
 ·rfl
 ·rfl
 ·exact bys_one _ u hu
 ·rfl
noncomputable def bdrn (ps : Array (Nat × Value)) : Sem Value := Instr.build 94 ps
noncomputable def strn (p v : Value) : Sem Unit := Instr.storeAt 94 p v
theorem bd_rn (ps : Array (Nat × Value)) : Instr.build 94 ps = bdrn ps := rfl
theorem st_rn (p v : Value) : Instr.storeAt 94 p v = strn p v := rfl
theorem run_bdrn (w : World) (x : D.Tg) (g : Nat) : (bdrn #[(1, .agg (nc x)), (2, .map (some g))]).run Tryz.prog w = .ok (.agg (rn0 x g)) w := by
 obtain ⟨b0, b1, b2, b3, b4, b5, b6, b7, b8, b9, hn⟩ := ten x
 have hb : bys x.l = [b0, b1, b2, b3, b4, b5, b6, b7, b8, b9] := by simpa [nc] using congrArg Array.toList hn
 rw [hn]
 simp [bdrn, Instr.build, go_sem, rn0, Rr, hb]
theorem run_strn_new (w : World) (n : Nat) (x : D.Tg) (g : Nat) (h : n = w.heap.size) :
  (strn (.pointer (some ⟨n, 0, none⟩)) (.agg (rn0 x g))).run Tryz.prog (w.alloc (.cells #[.pointer none, .slice none 0 0, .int .u8 0, .int .u8 0, .int .u8 0, .int .u8 0, .int .u8 0, .int .u8 0, .int .u8 0, .int .u8 0, .int .u8 0, .int .u8 0, .map none] 94)) = .ok () (w.alloc (.cells (rn0 x g) 94)) := by
 subst h
 exact run_storeAt_new (P := Tryz.prog) w 94 _ (rn0 x g) (by rw [rn0_size]; kernel_rfl) (by rw [rn0_size]; rfl) (rn0_one x g)
theorem rn_blk {x : D.Tg} {g b : Nat} {w : World} (h : Blk w b 94 (rn0 x g)) : Rn x g b w [] := ⟨_, none, 0, 0, .inl rfl, h, Ow.nil _ _ (by have := h.lt; omega), fun _ => ⟨rfl, rfl, rfl⟩⟩
theorem rw_val {w : World} {A : Option Addr} {n j : Nat} {ys : List D.Vl} {y : D.Vl} (h : Rw 14 w A n (vS.rcs ys)) (hj : ys[j]? = some y) : ∃ ad, A = some ad ∧ ad.block < w.heap.size ∧ vS.rd w (ad.add (j * 14)) = some y := by
 have h0 : (vS.cs y)[12]? = some (.int .u64 (y.N : Nat)) := by
  show (vcells y)[12]? = _
  rw [vcells, List.getElem?_append_right (by rw [bys_len, y.n.len]; omega), bys_len, y.n.len]
  rfl
 have h1 := Shp.rcs_at hj 12 _ h0
 obtain ⟨ad, rfl, hl, hc⟩ := h.cell h1
 refine ⟨ad, rfl, hl, Shp.rd_of fun i u hu => ?_⟩
 obtain ⟨ad', e, _, hc'⟩ := h.cell (Shp.rcs_at hj i u hu)
 cases e
 rw [add_of_add]
 exact hc'
theorem Tp.lt {w : World} (h : Tp w) {w' : World} {B : Nat} (hs : ∀ i, i < w.heap.size -> w'.heap[i]? = w.heap[i]?) : Tp w' := by
 unfold Tp Lib.TabIs World.var? at *
 cases hg : Tryz.prog.globalNamed "internal/strconv.uint64pow10" with
 | none => simp [hg] at h
 | some g =>
  simp only [hg, Option.bind_some] at h ⊢
  have hlt : g < w.heap.size := by
   rcases Nat.lt_or_ge g w.heap.size with h' | h'
   ·exact h'
   ·rw [Array.getElem?_eq_none h'] at h; simp at h
  rw [hs g hlt]
  exact h
theorem Env.lt_ {w : World} (h : Env w) {w' : World} (hs : ∀ i, i < w.heap.size -> w'.heap[i]? = w.heap[i]?) : Env w' :=
 have k : ∀ {a : Addr} {v : Value}, w.cell? a = some v -> w'.cell? a = some v := fun {a v} h => (World.cell?_of_block (hs _ (World.block_lt_of_cell? w _ h))).trans h
 ⟨k h.c0, k h.c1, k h.c2, k h.c3, k h.c4, k h.c5⟩
attribute [local go_sem ↓] bd_rn st_rn
attribute [local go_sem] run_bdrn run_strn_new
theorem fr_grown_ {w w' : World} {g : Nat} (h : w.grownBy w' (some g)) : Fr (· = g) w w' := ⟨h.os, h.tape, h.output, h.size, fun i hi hn => h.block i hi fun e => hn (Option.some.inj e)⟩
set_option maxHeartbeats 8000000 in
theorem render_any (F : Nat -> Prop) (w : World) (u : Value) (l : List D.Nd) (x : D.Tg) (A : Option Addr) (n c : Nat) (vals : List D.Vl) (hP : Pm F w 3 u l) (hR : D.Rt 3 false l) (hsz : (D.prL l).length <= 1000) (hG : Gv w) (hT : Tp w) (hV : Rw 14 w A n (vS.rcs vals)) (hn : n <= 1000) (hv : ∀ z ∈ vals, z.N < 18446744073709551616 ∧ (D.ns z.t).length <= 20) :
  Calls Tryz.prog 14 #[u, .agg (nc x), .slice A n c] w fun e w' => e = .returned (.tuple #[.string (D.sb (D.renA (D.gr x) (D.vfo (D.fvs vals)) l).1), .int .i64 ((D.renA (D.gr x) (D.vfo (D.fvs vals)) l).2 : Nat)]) ∧ Below w.heap.size w w' := by
 have hlen := hV.len
 rw [Shp.rcs_len, show vS.n = 14 from rfl] at hlen
 have hlen : vals.length = n := by omega
 have bA := below_alloc_ w (.cells (nc x) 61)
 have cP := print_any F (w.alloc (.cells (nc x) 61)) u l (hP.keep (keeps_below bA)) hR hsz (hG.on bA)
 have h8 := prL_256 3 hP hR
 have hVf : D.Vfk (D.fvs vals) := fun m z h => hv z (D.fvs_in vals m z h)
 have h256 := D.rnd_256 (g := D.gr x) (D.vfo_by (D.fvs vals)) 3 (s := 0) hR h8
 have r0 := rd_new w w.heap.size 61 x rfl
 by_cases h60 : 60 < (D.prL l).length
 ·have e1 : D.prT l = ([], 2) := by unfold D.prT; rw [if_pos h60]
  have e2 : D.renA (D.gr x) (D.vfo (D.fvs vals)) l = ([], 2) := by unfold D.renA; rw [if_pos h60]
  rw [e1] at cP
  rw [e2]
  have CP := Lib.hid cP
  clear e1 e2 cP hP hR hsz hG hT hV hv h8 hVf h256 h60
  go_enter Tryz.func14, Tryz.ntmps14
  go_wp2_with (go_at_call 15; (with_reducible refine CP.out.mono ?_); rintro e w1 ⟨rfl, b1⟩; have B1 := Lib.hid b1; clear b1)
  refine bodyPost_ret (v := .tuple #[.string ⟨#[]⟩, .int .i64 2]) (by simp [results, Tryz.results14, go_sem]) rfl ⟨rfl, ?_⟩
  exact bA.trans (B1.out.mono bA.size)
 ·have e1 : D.prT l = (D.prL l, 0) := by unfold D.prT; rw [if_neg h60]
  have hsz2 : (D.prL l).length <= 60 := by omega
  rw [e1] at cP
  have CP := Lib.hid cP
  have HV := Lib.hid hV
  have HTP := Lib.hid hT
  have HG := Lib.hid hG
  have HP := Lib.hid (hP.weaken (F' := fun i => i < w.heap.size) fun b hb _ => hb)
  have HVF := Lib.hid hVf
  have H256 := Lib.hid h256
  have HR := Lib.hid hR
  have HSZ := Lib.hid hsz2
  have eA : D.renA (D.gr x) (D.vfo (D.fvs vals)) l = D.ansO (D.rnd (D.gr x) (D.vfo (D.fvs vals)) 3 0 l) := by unfold D.renA; rw [if_neg h60]
  rw [eA]
  obtain ⟨o, ho⟩ : ∃ o, D.rnd (D.gr x) (D.vfo (D.fvs vals)) 3 0 l = o := ⟨_, rfl⟩
  rw [ho] at H256 ⊢
  have HO := Kept.mk ho
  clear e1 eA cP hP hR hsz hsz2 hG hT hV hv h8 hVf h256 h60 ho
  have hmm := @run_makeMap Tryz.prog
  go_enter Tryz.func14, Tryz.ntmps14
  go_wp2_with (go_at_call 15; (with_reducible refine CP.out.mono ?_); rintro e w1 ⟨rfl, b1⟩
               have r1 := rd_on r0 b1
               have B1 := Lib.hid (bA.trans (b1.mono bA.size))
               have l1 := Nat.lt_of_lt_of_le (show w.heap.size < (w.alloc (.cells (nc x) 61)).heap.size by simp) b1.size
               clear b1)
  have b4 : Below w.heap.size w ((w1.alloc (.map #[] 0)).alloc (.cells (rn0 x w1.heap.size) 94)) := (B1.out.alloc B1.out.size _).alloc (by have := B1.out.size; simp; omega) _
  have k4 : Blk ((w1.alloc (.map #[] 0)).alloc (.cells (rn0 x w1.heap.size) 94)) (w1.heap.size + 1) 94 (rn0 x w1.heap.size) := by have := Blk.new (w1.alloc (.map #[] 0)) 94 (rn0 x w1.heap.size); simpa using this
  have v4 : VmAt ((w1.alloc (.map #[] 0)).alloc (.cells (rn0 x w1.heap.size) 94)) w1.heap.size 0 (D.fvs (vals.take 0)) := (vm_new w1 _ rfl).on (below_alloc_ _ _)
  have HB4 := Lib.hid b4
  have HK4 := Lib.hid k4
  have HV4 := Lib.hid v4
  have hw1 := B1.out.size
  clear b4 k4 v4
  go_loopw [27] (fun i wr => ∃ j : Nat, j <= n ∧ i = .int .i64 j ∧ Hid (VmAt wr w1.heap.size j (D.fvs (vals.take j))) ∧ Hid (Fr (· = w1.heap.size) ((w1.alloc (.map #[] 0)).alloc (.cells (rn0 x w1.heap.size) 94)) wr)) (fun i _ => n - (intOf i).toNat)
  case atStart => exact ⟨0, Nat.zero_le _, rfl, HV4, Lib.hid (Fr.refl _ _)⟩
  case round =>
   obtain ⟨j, hj, rfl, HVj, HFj⟩ := hrel
   obtain ⟨wo, rfl⟩ : ∃ wo : World, wo = wr := ⟨_, rfl⟩
   have hBo : Below w.heap.size w wo := HB4.out.trans (HFj.out.below HB4.out.size fun i hi e => by have e' : i = w1.heap.size := e; omega)
   have hKo : Blk wo (w1.heap.size + 1) 94 (rn0 x w1.heap.size) := HFj.out.blk HK4.out (by omega)
   by_cases hlt : j < n
   ·obtain ⟨y, hy⟩ : ∃ y, vals[j]? = some y := ⟨_, List.getElem?_eq_getElem (by omega)⟩
    obtain ⟨ad, rfl, hbk, hrd⟩ := rw_val (HV.out.on hBo) hy
    have hI : (j : Int) < n := by omega
    have bN := below_alloc_ wo (.cells (vS.v y) 64)
    have hN : Blk (wo.alloc (.cells (vS.v y) 64)) wo.heap.size 64 (vS.v y) := Blk.new _ _ _
    have hKn := hKo.on bN
    have m0 : (wo.alloc (.cells (vS.v y) 64)).cell? ⟨w1.heap.size + 1, 12, none⟩ = some (.map (some w1.heap.size)) := (rn_tag (rn_blk hKn)).2
    have m1 := hKn.lt
    have m2 := (vf_blk hN).n
    have m3 := Shp.rd_blk hN
    have m4 := hN.lt
    obtain ⟨w6, hrun, hv6, hg6⟩ := (HVj.out.on bN).put (by omega) y
    have hsn : vals.take (j + 1) = vals.take j ++ [y] := by rw [List.take_add_one, hy]; rfl
    have hv7 : VmAt w6 w1.heap.size (j + 1) (D.fvs (vals.take (j + 1))) := by rw [hsn, D.fvs_snoc]; exact hv6
    have hf7 : Fr (· = w1.heap.size) ((w1.alloc (.map #[] 0)).alloc (.cells (rn0 x w1.heap.size) 94)) w6 := (HFj.out.alloc _).step (fr_grown_ hg6)
    have HV7 := Lib.hid hv7
    have HF7 := Lib.hid hf7
    clear hy hN hKn hKo hBo bN hsn hv6 hg6 hv7 hf7
    go_wp2
    go_roundw
    case rel => exact ⟨j + 1, by omega, by go_num, HV7, HF7⟩
    case measure => simp [intOf]; omega
   ·obtain rfl : j = n := by omega
    have hall : vals.take j = vals := List.take_of_length_le (by omega)
    have hVa : VmAt wo w1.heap.size j (D.fvs vals) := by have := HVj.out; rwa [hall] at this
    have hRn := rn_blk hKo
    have hsz1 := HSZ.out
    have hRg : Rg (w1.heap.size + 1) w1.heap.size j (D.fvs vals) wo := ⟨fun W hW => by
     have hs : ∀ i, i < w.heap.size -> W.heap[i]? = w.heap[i]? := fun i hi => (hW.low i (by omega) (by have := hBo.size; omega)).trans (hBo.block i hi)
     exact ⟨HG.out.e.lt_ hs, HTP.out.lt (B := 0) hs, hVa.tow (hW.low _ (by omega) hVa.lt)⟩⟩
    have hPm := ((HP.out.keep (keeps_below hBo)).weaken (F' := fun i => i < w1.heap.size + 1) fun b hb hF => by have hF' : b < w.heap.size := hF; omega)
    have cM := rend_any x w1.heap.size (w1.heap.size + 1) j (D.fvs vals) HVF.out 3 false 0 wo _ l hPm HR.out (by omega) (by have := hKo.lt; omega) hRg (by omega) wo [] (Nu.refl _ _) hRn (by simp; omega)
    rw [HO.out] at cM
    have HBO := Lib.hid hBo
    have hkl := hKo.lt
    clear hall hVa hRn hRg hPm hKo hsz1 hBo
    cases o with
    | none =>
     have CM : Hid (Calls Tryz.prog 30 #[vr (w1.heap.size + 1), u, .int .u64 0] wo fun y w' => y = .returned (.int .i64 7) ∧ Nu (w1.heap.size + 1) wo w') := Lib.hid (cM.mono fun y w' ⟨h1, h2, h3⟩ => ⟨h1, h3⟩)
     clear cM
     go_wp2_with (go_at_call 30; (with_reducible refine CM.out.mono ?_); rintro e w5 ⟨rfl, n5⟩; have N5 := Lib.hid n5; clear n5)
     refine bodyPost_ret (v := .tuple #[.string ⟨#[]⟩, .int .i64 7]) (by simp [results, Tryz.results14, go_sem]) rfl ⟨rfl, ?_⟩
     exact HBO.out.trans ((N5.out.below (by omega)).mono (by omega))
    | some t =>
     have CM : Hid (Calls Tryz.prog 30 #[vr (w1.heap.size + 1), u, .int .u64 0] wo fun y w' => y = .returned (.int .i64 0) ∧ Rn x w1.heap.size (w1.heap.size + 1) w' t ∧ Nu (w1.heap.size + 1) wo w') := Lib.hid (cM.mono fun y w' ⟨h1, h2, h3⟩ => ⟨h1, by have := h2 t rfl; simpa using this, h3⟩)
     have H8 := Lib.hid (H256.out t rfl)
     clear cM
     go_wp2_with (first
      | (go_at_call 30; (with_reducible refine CM.out.mono ?_); rintro e w5 ⟨rfl, b5, n5⟩; have N5 := Lib.hid n5; have B5 := Lib.hid b5; clear n5 b5)
      | (go_at_call 31; (with_reducible refine (textB_any B5.out H8.out).mono ?_); rintro e w6 ⟨rfl, b6⟩; have B6 := Lib.hid b6; clear b6))
     refine bodyPost_ret (v := .tuple #[.string (D.sb t), .int .i64 0]) (by simp [results, Tryz.results14, go_sem]) rfl ⟨rfl, ?_⟩
     exact HBO.out.trans (((N5.out.below (by omega)).mono (by omega)).trans (B6.out.mono (by omega)))
end Go.Proofs.YtgnjjlgmlokhmaaGreatDoor
