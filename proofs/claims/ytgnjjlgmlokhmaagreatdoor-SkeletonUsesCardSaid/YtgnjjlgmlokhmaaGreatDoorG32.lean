/-
  
-/
import Derived.Test.YtgnjjlgmlokhmaaGreatDoorG31
import Derived.Test.YtgnjjlgmlokhmaaGreatDoorG30
import Derived.BigQuiet
set_option linter.unusedVariables false
set_option linter.unusedSimpArgs false
set_option maxRecDepth 100000
namespace Go.Proofs.YtgnjjlgmlokhmaaGreatDoor
open Go.RowKit
attribute [local go_sem ↓] Go.wp_at_zero Go.wp_at_succ ld_uv lv_uv st_uv bd_uv bs_uv

theorem mkeys_any (b : Nat) (w : World) : Calls Tryz.prog 18 #[.map (some b)] w fun e w' => e = .returned (.func (.func 38) #[] #[.pointer (some ⟨w.heap.size, 0, none⟩)]) ∧ w' = w.alloc (.cells #[.map (some b)] 66) := by
 go_enter Tryz.func18, Tryz.ntmps18
 go_wp2
 go_ret
 exact ⟨rfl, rfl⟩
theorem collect_any (Bm b : Nat) (L : List D.Uv) (w : World) (hBm : Bm < w.heap.size) (hm : w.cell? ⟨Bm, 0, none⟩ = some (.map (some b))) (hu : UsAt w b L) (hL : L.Nodup) (hok : ∀ x ∈ L, Uok x) (hlen : L.length <= 1000) :
  Calls Tryz.prog 36 #[.func (.func 38) #[] #[.pointer (some ⟨Bm, 0, none⟩)]] w fun e w' => ∃ (A : Option Addr) (c : Nat) (ss : List D.Uv), ss.Perm L ∧ e = .returned (.slice A ss.length c) ∧ Ow 41 14 w.heap.size w' A ss.length c (uS.rcs ss) ∧ Below w.heap.size w w' := by
 have C := Lib.hid (appendSeq_any Bm b L w hBm hm hu hL hok hlen)
 clear hm hu hL hok hlen hBm
 go_enter Tryz.func36, Tryz.ntmps36
 go_wp2_with (go_at_call 63; (with_reducible refine C.out.mono ?_); rintro e w1 ⟨A1, c1, ss, hp, rfl, ho, hb⟩; have HP := Lib.hid hp; have HO := Lib.hid ho; have HB := Lib.hid hb; clear hp ho hb)
 go_ret
 exact ⟨A1, c1, ss, HP.out, rfl, HO.out, HB.out⟩
end Go.Proofs.YtgnjjlgmlokhmaaGreatDoor
namespace Go.Proofs.YtgnjjlgmlokhmaaGreatDoor
open Go.RowKit
attribute [local go_sem ↓] Go.wp_at_zero Go.wp_at_succ Nm.ld_a Nm.ld_n Nm.st_a Nm.st_n Nm.lv_a Nm.lv_n Nm.eq_a Nm.eq_n Nm.ne_a Nm.ne_n ld_uv lv_uv st_uv bd_uv bs_uv
attribute [local go_sem] Nm.run_ld_a Nm.run_ld_n Nm.run_lv_a Nm.run_lv_n Nm.run_eq_a Nm.run_eq_n Nm.run_ne_a Nm.run_ne_n Nm.rd_new Nm.rd_old Nm.rd_drew Nm.rd_drewN Nm.st_z run_lvuv run_lduv run_stuv_new run_bsuv Shp.rd_new Shp.rd_old Shp.rd_drew Shp.rd_drewN

namespace D
def addU (acc : List Uv) (u : Uv) : List Uv := match acc.getLast? with
 | some y => if y.n = u.n then acc.dropLast ++ [wth y u] else acc ++ [u]
 | none => acc ++ [u]
def foldU : List Uv -> List Uv -> List Uv
 | acc, [] => acc
 | acc, u :: l => foldU (addU acc u) l
theorem foldU_app : ∀ (acc a b : List Uv), foldU acc (a ++ b) = foldU (foldU acc a) b
 | acc, [], b => rfl
 | acc, u :: a, b => by simp [foldU, foldU_app (addU acc u) a b]
theorem foldU_take {S : List Uv} {j : Nat} {u : Uv} (h : S[j]? = some u) : foldU [] (S.take (j + 1)) = addU (foldU [] (S.take j)) u := by
 rw [List.take_add_one, h, foldU_app]
 rfl
theorem addU_nil (u : Uv) : addU [] u = [u] := rfl
theorem addU_same {acc : List Uv} {y u : Uv} (h : y.n = u.n) : addU (acc ++ [y]) u = acc ++ [wth y u] := by
 unfold addU
 simp [h]
theorem addU_else {acc : List Uv} {y u : Uv} (h : y.n ≠ u.n) : addU (acc ++ [y]) u = acc ++ [y] ++ [u] := by
 unfold addU
 simp [h]
end D
theorem use_nm {w : World} {g : Nat} {x : D.Uv} {T : TypeId} (h : Blk w g T (uS.v x)) : Nm.rd w ⟨g, 0, none⟩ = some x.n := by
 have hl : (bys x.n.l).length = 12 := by rw [bys_len, x.n.len]
 refine Nm.rd_of fun j u hu => ?_
 have hj := (List.getElem?_eq_some_iff.1 hu).1
 have e : (ucells x)[j]? = some u := by unfold ucells; rw [List.getElem?_append_left hj]; exact hu
 exact World.news_of_block h.out j u (by simpa [Shp.v, uS] using e)
theorem own_blk {T : TypeId} {sz base n c : Nat} {w : World} {ad : Addr} {xs : List Value} (h : Ow T sz base w (some ad) n c xs) (hn : 0 < n) : (Value.slice (some ad) n c).ownBlock = some ad.block := by
 rcases h.row.2 with ⟨_, h0⟩ | ⟨g, cap, cur, e, _⟩
 ·omega
 ·injection e with e1
  injection e1 with e1
  subst e1
  rfl
theorem D.usm_wth {acc : List D.Uv} {y v : D.Uv} {j : Nat} (h : D.Usm (j * 1001) (acc ++ [y])) (hvh : v.h < 8) (hvt : v.t.size <= 1000) : D.Usm ((j + 1) * 1001) (acc ++ [D.wth y v]) := by
 obtain ⟨h1, h2⟩ := h y (by simp)
 refine D.usm_app (fun z hz => ?_) (D.usm_one ?_ ?_)
 ·obtain ⟨h3, h4⟩ := h z (by simp [hz])
  exact ⟨h3, by omega⟩
 ·exact Nat.or_lt_two_pow (n := 3) h1 hvh
 ·unfold D.wth
  split
  ·simp only [ByteArray.size_append]; omega
  ·simp only [ByteArray.size_append]
   have : (⟨#[44]⟩ : ByteArray).size = 1 := rfl
   omega
def SfC : Prop := ∀ (Bm b : Nat) (L : List D.Uv) (w : World), Bm < w.heap.size -> w.cell? ⟨Bm, 0, none⟩ = some (.map (some b)) -> UsAt w b L -> L.Nodup -> (∀ x ∈ L, Uok x) -> L.length <= 1000 ->
 Calls Tryz.prog 17 #[.func (.func 38) #[] #[.pointer (some ⟨Bm, 0, none⟩)], .func (.func 19) #[] #[]] w fun e w' => ∃ (A : Option Addr) (c : Nat) (S : List D.Uv), (S.Pairwise fun a b => D.cfU b a ≠ -1) ∧ S.Perm L ∧ e = .returned (.slice A S.length c) ∧ Ow 41 14 w.heap.size w' A S.length c (uS.rcs S) ∧ Below w.heap.size w w'

set_option maxHeartbeats 16000000 in
theorem uses_any (F : Nat -> Prop) (w : World) (u : Value) (l : List D.Nd) (hP : Pm F w 3 u l) (hR : D.Rt 3 false l) (hsz : (D.prL l).length <= 60) (hG : Gv w) (hSf : SfC) :
  Calls Tryz.prog 8 #[u] w fun e w' => ∃ (A : Option Addr) (c : Nat) (S : List D.Uv), (S.Pairwise fun a b => D.cfU b a ≠ -1) ∧ S.Perm (D.insA [] (D.gth 3 l)) ∧ e = .returned (.slice A (D.foldU [] S).length c) ∧ Rw 14 w' A (D.foldU [] S).length (uS.rcs (D.foldU [] S)) ∧ Below w.heap.size w w' := by
 have CP := Lib.hid (print_any F w u l hP hR (by omega) hG)
 unfold D.prT at CP
 rw [if_neg (by omega)] at CP
 obtain ⟨X, hX⟩ : ∃ X, D.sb (D.prL l) = X := ⟨_, rfl⟩
 have CP' : Hid (Calls Tryz.prog 15 #[u] w fun e w' => e = .returned (.tuple #[.string X, .int .i64 0]) ∧ Below w.heap.size w w') := by rw [<- hX]; exact CP
 obtain ⟨A0, n0, c0, rfl⟩ := pm_slice hP
 have hgl := D.gth_len 3 hR
 have HP := Lib.hid hP
 have HR := Lib.hid hR
 have hnd : (D.insA [] (D.gth 3 l)).Nodup := D.insA_nodup List.nodup_nil
 have hil := D.insA_len [] (D.gth 3 l)
 have hsm : ∀ y ∈ D.insA [] (D.gth 3 l), y.h < 8 ∧ y.t.size <= 1000 := D.insA_sm D.usm_nil (D.gth_sm 3 hR (by omega))
 obtain ⟨L, hL⟩ : ∃ L, D.insA [] (D.gth 3 l) = L := ⟨_, rfl⟩
 rw [hL] at hnd hil hsm
 have hL60 : L.length <= 60 := by simp at hil; omega
 have hmm := @run_makeMap Tryz.prog
 have CG : Hid (∀ W, Below w.heap.size w W -> Calls Tryz.prog 16 #[.map (some W.heap.size), .slice A0 n0 c0] (W.alloc (.map #[] 0)) fun e w' => e = .returned (.tuple #[]) ∧ UsAt w' W.heap.size L ∧ Below W.heap.size W w') := Lib.hid fun W hW => by
  have h1 : Pm (fun i => i ≠ W.heap.size) (W.alloc (.map #[] 0)) 3 (.slice A0 n0 c0) l := (((hP.keep (keeps_below hW)).weaken (F' := fun i => i ≠ W.heap.size) fun i hi _ => by omega)).keep (keeps_below (below_alloc_ _ _))
  have h2 := gather_any (g := W.heap.size) (fun s W h => clone_any s W h) 3 h1 hR (by omega) _ [] (Fr.refl _ _) (us_new W _ rfl) (by simp; omega)
  rw [hL] at h2
  exact h2.mono fun e w' ⟨h3, h4, h5⟩ => ⟨h3, h4, (below_alloc_ W _).trans (h5.below (by simp) (fun i hi e => by omega))⟩
 have CS : Hid (∀ (Bm b : Nat) (W : World), Bm < W.heap.size -> W.cell? ⟨Bm, 0, none⟩ = some (.map (some b)) -> UsAt W b L -> Calls Tryz.prog 17 #[.func (.func 38) #[] #[.pointer (some ⟨Bm, 0, none⟩)], .func (.func 19) #[] #[]] W fun e w' => ∃ (A : Option Addr) (c : Nat) (S : List D.Uv), (S.Pairwise fun a b => D.cfU b a ≠ -1) ∧ S.Perm L ∧ e = .returned (.slice A S.length c) ∧ Ow 41 14 W.heap.size w' A S.length c (uS.rcs S) ∧ Below W.heap.size W w') := Lib.hid fun Bm b W h1 h2 h3 => hSf Bm b L W h1 h2 h3 hnd (fun x hx => ⟨by have := (hsm x hx).1; omega, by have := (hsm x hx).2; omega⟩) (by omega)
 have HSM := Lib.hid hsm
 have HBW := Lib.hid (Below.refl w.heap.size w)
 have HL := Kept.mk hL
 clear hP hR hG hgl hil hnd hsm hX CP hL
 go_enter Tryz.func8, Tryz.ntmps8
 go_wp2_with (first
  | (go_at_call 15; (with_reducible refine CP'.out.mono ?_); rintro e w1 ⟨rfl, b1⟩; have B1 := Lib.hid b1; clear b1)
  | (go_at_call 16; (with_reducible refine (CG.out _ B1.out).mono ?_); rintro e w2 ⟨rfl, u2, b2⟩; have U2 := Lib.hid u2; have B2 := Lib.hid (B1.out.trans (b2.mono B1.out.size)); clear u2 b2)
  | (go_at_call 18; (with_reducible refine (mkeys_any _ _).mono ?_); rintro e w3 ⟨rfl, rfl⟩)
  | (go_at_call 17; (with_reducible refine (CS.out w2.heap.size w1.heap.size _ (by simp) ((Blk.new w2 _ _).c_ 0) (U2.out.on (below_alloc_ _ _))).mono ?_); rintro e w4 ⟨AS, cS, S, hS1, hS2, rfl, hS3, b4⟩; have HS1 := Lib.hid hS1; have HS2 := Lib.hid hS2; have HS3 := Lib.hid hS3; have B4 := Lib.hid (B2.out.trans (((below_alloc_ w2 _).trans (b4.mono (by simp))).mono B2.out.size)); clear hS1 hS2 hS3 b4))
 have hlS : S.length <= 60 := by rw [HS2.out.length_eq]; exact hL60
 have hsS : ∀ y ∈ S, y.h < 8 ∧ y.t.size <= 1000 := fun y hy => HSM.out y (HS2.out.mem_iff.1 hy)
 have HSS := Lib.hid hsS
 obtain ⟨NS, hNS⟩ : ∃ n, S.length = n := ⟨_, rfl⟩
 have HNS := Kept.mk hNS
 rw [hNS] at hlS HS3
 try rw [hNS]
 clear hsS hNS
 go_loopw [6, 25] (fun s6 s25 wr => ∃ (j : Nat) (A : Option Addr) (c : Nat) (acc : List D.Uv), j <= NS ∧ s25 = .int .i64 j ∧ s6 = .slice A acc.length c ∧ Kept (D.foldU [] (S.take j) = acc) ∧ Hid (Ow 41 14 w4.heap.size wr A acc.length c (uS.rcs acc)) ∧ Hid (D.Usm (j * 1001) acc ∧ acc.length <= j) ∧ Hid (Below w4.heap.size w4 wr)) (fun _ s25 _ => NS - (intOf s25).toNat)
 case atStart => exact ⟨0, none, 0, [], Nat.zero_le _, rfl, rfl, ⟨rfl⟩, Lib.hid (Ow.nil _ 14 (Nat.le_refl _)), Lib.hid ⟨(fun y h => by cases h), Nat.le_refl _⟩, Lib.hid (Below.refl _ _)⟩
 case round =>
  obtain ⟨j, A, c, acc, hj, rfl, rfl, HA, HO, HM, HZ⟩ := hrel
  obtain ⟨wo, rfl⟩ : ∃ wo : World, wo = wr := ⟨_, rfl⟩
  by_cases hlt : j < NS
  ·obtain ⟨v, hv⟩ : ∃ v, S[j]? = some v := ⟨_, List.getElem?_eq_getElem (by rw [HNS.out]; exact hlt)⟩
   obtain ⟨ad, rfl, hbk, hrd, _⟩ := use_at (HS3.out.to_row.on HZ.out) hv
   have hft := D.foldU_take hv
   rw [HA.out] at hft
   obtain ⟨hvh, hvt⟩ := HSS.out v (List.mem_of_getElem? hv)
   have hI : (j : Int) < NS := by omega
   have hN : Blk (wo.alloc (.cells (uS.v v) 41)) wo.heap.size 41 (uS.v v) := Blk.new _ _ _
   have n0 := Shp.rd_blk (S := uS) hN
   have n1 := use_nm hN
   have n2 := hN.lt
   obtain ⟨W1, hW1⟩ : ∃ W1, wo.alloc (.cells (uS.v v) 41) = W1 := ⟨_, rfl⟩
   have b1 : Below wo.heap.size wo W1 := by rw [<- hW1]; exact below_alloc_ _ _
   have HO1 := Lib.hid (HO.out.on b1)
   have HZ1 := Lib.hid (HZ.out.trans (b1.mono HZ.out.size))
   have HN1 : Hid (Blk W1 wo.heap.size 41 (uS.v v)) := Lib.hid (by rw [<- hW1]; exact hN)
   clear hv b1 hN
   rcases List.eq_nil_or_concat acc with rfl | ⟨acc', y, e⟩
   ·rw [D.addU_nil] at hft
    have HFT := Kept.mk hft
    have HU : Hid (D.Usm ((j + 1) * 1001) [v]) := Lib.hid fun z hz => by
     obtain rfl : z = v := by simpa using hz
     exact ⟨hvh, by omega⟩
    rw [<- hW1] at HO1 HZ1
    clear hft hW1 hvh hvt
    go_wp2_with fail
    go_quiet (fail)
    have HLT := Kept.mk hlt
    have HO2 : Hid (Ow 41 14 w4.heap.size ((wo.alloc (.cells (uS.v v) 41)).drewN nq) A 0 c (uS.rcs [])) := Lib.hid (HO1.out.on (below_drewN (Below.refl _ _) nq))
    have HZ2 : Hid (Below w4.heap.size w4 ((wo.alloc (.cells (uS.v v) 41)).drewN nq)) := Lib.hid (below_drewN HZ1.out nq)
    go_wp2_with (at_builtin; refine gapp _ use_under use_info rfl (by decide) (by decide) rfl (.tmp 53) (.tmp 55) rfl rfl (HO2.out.alloc _) rfl (rw_use ((wo.alloc (.cells (uS.v v) 41)).drewN nq) _ (by simp) v _) (by intro u hu; exact uS.rcs_one _ u hu) (by simp) ?_; intro A5 c5 w5 h5 hg5 hor5; have H5 := Lib.hid h5; have HB5 := Lib.hid ((HZ2.out.trans ((below_alloc_ _ (.cells (uS.v v) 41)).mono HZ2.out.size)).trans (ow_below (HO2.out.alloc _) hg5)); clear h5 hg5 hor5)
    go_roundw
    case rel => exact ⟨j + 1, A5, c5, [v], HLT.out, by go_num, rfl, HFT, Lib.hid (by simpa [Shp.rcs] using H5.out), Lib.hid ⟨HU.out, by simp⟩, HB5⟩
    case measure => have := HLT.out; simp [intOf]; omega
   ·have e' : acc = acc' ++ [y] := by simpa using e
    clear e
    subst e'
    obtain ⟨m, hm⟩ : ∃ m, acc'.length = m := ⟨_, rfl⟩
    have hlen : (acc' ++ [y]).length = m + 1 := by simp [hm]
    rw [hlen] at HO1 HM
    rw [hlen]
    have hjm := HM.out.2
    obtain ⟨hyh, hyt⟩ := HM.out.1 y (by simp)
    rw [<- hW1] at HO1 HZ1
    rw [hlen] at HO
    have hgm : (acc' ++ [y])[m]? = some y := by rw [<- hm]; simp
    obtain ⟨ad2, rfl, hbk2, _, _⟩ := use_at (j := m) HO.out.to_row hgm
    obtain ⟨ad3, e3, _, hrd2, hnm2⟩ := use_at (j := m) HO1.out.to_row hgm
    obtain rfl := Option.some.inj e3
    have hm1 : ((m + 1 : Nat) : Int) - 1 = m := by omega
    have hm2 : (m : Int) < ((m + 1 : Nat) : Int) := by omega
    have hm3 : (0 : Int) <= m := by omega
    have HM2 := Lib.hid hjm
    have HLT := Kept.mk hlt
    clear hW1
    have hsb : ((m : Int) ≥ 0) = True := by simp
    by_cases hn : y.n = v.n
    ·have hb : Nm.sm y.n v.n = true := by unfold Nm.sm; simpa using hn
     rw [D.addU_same hn] at hft
     have HFT := Kept.mk hft
     have HU : Hid (D.Usm ((j + 1) * 1001) (acc' ++ [D.wth y v])) := Lib.hid (D.usm_wth HM.out.1 hvh hvt)
     have CW : Hid (∀ W, Calls Tryz.prog 20 #[.agg (uS.v y), .agg (uS.v v)] W fun e w' => e = .returned (.agg (uS.v (D.wth y v))) ∧ Below W.heap.size W w') := Lib.hid fun W => with_any y v W hyh hvh (by omega) (by omega)
     clear hn hft hvh hvt hyh hyt
     go_wp2_with fail
     go_quiet (fail)
     obtain ⟨W3, hW3⟩ : ∃ W3, (wo.alloc (.cells (uS.v v) 41)).drewN nq = W3 := ⟨_, rfl⟩
     have HO2 : Hid (Ow 41 14 w4.heap.size W3 (some ad2) (m + 1) c (uS.rcs (acc' ++ [y]))) := Lib.hid (by rw [<- hW3]; exact HO1.out.on (below_drewN (Below.refl _ _) nq))
     have HZ2 : Hid (Below w4.heap.size w4 W3) := Lib.hid (by rw [<- hW3]; exact below_drewN HZ1.out nq)
     have HN3 : Hid (Blk W3 wo.heap.size 41 (uS.v v)) := Lib.hid (by rw [<- hW3]; exact (Blk.new wo _ (uS.v v)).on (below_drewN (Below.refl _ _) nq))
     rw [hW3]
     clear hW3 n0 n1 n2 hrd2 hnm2
     go_upto_region 12 with fail
     refine wp_region_noPanic ?_
     refine wp_region_held_drew (S := fun W' => Blk W' wo.heap.size 41 (uS.v v)) (by kernel_rfl) (HN3.out.on (Below.refl _ _).drew) (fun _ => ?_)
     obtain ⟨wd, hwd⟩ : ∃ wd, W3.drew = wd := ⟨_, rfl⟩
     have bd0 : Below W3.heap.size W3 wd := by rw [<- hwd]; exact (Below.refl _ _).drew
     have HOd := Lib.hid (HO2.out.on bd0)
     have HZd := Lib.hid (HZ2.out.trans (bd0.mono HZ2.out.size))
     have sd : Blk wd wo.heap.size 41 (uS.v v) := HN3.out.on bd0
     obtain ⟨ad4, e4, _, hrd4, _⟩ := use_at (j := m) HOd.out.to_row hgm
     obtain rfl := Option.some.inj e4
     rw [hwd]
     clear hwd
     refine takeT 0 (some 44) ?va0 ?hya0 sd ?resta0
     case hya0 => (intro o ho W hW; simp only [gT, gS, gZ, sI] at ho; subst ho; (try dsimp only at hW); go_simp; first | rfl | (rw [if_pos (by omega)]) | skip)
     try simp only [Act.put, iT, iZ, iS]
     refine takeT 1 (some 45) ?va1 ?hya1 sd ?resta1
     case hya1 => (intro o ho W hW; simp only [gT, gS, gZ, sI] at ho; subst ho; (try dsimp only at hW); go_simp; first | rfl | (rw [if_pos (by omega)]) | skip)
     try simp only [Act.put, iT, iZ, iS]
     refine takeT 2 (some 46) ?va2 ?hya2 sd ?resta2
     case hya2 => (intro o ho W hW; simp only [gT, gS, gZ, sI] at ho; subst ho; (try dsimp only at hW); go_simp; first | rfl | (rw [if_pos (by omega)]) | skip)
     try simp only [Act.put, iT, iZ, iS]
     refine takeT 3 (some 47) ?va3 ?hya3 sd ?resta3
     case hya3 => (intro o ho W hW; simp only [gT, gS, gZ, sI] at ho; subst ho; (try dsimp only at hW); go_simp; first | rfl | (rw [if_pos (by omega)]) | skip)
     try simp only [Act.put, iT, iZ, iS]
     refine takeT 4 (some 48) ?va4 ?hya4 sd ?resta4
     case hya4 => (intro o ho W hW; simp only [gT, gS, gZ, sI] at ho; subst ho; (try dsimp only at hW); go_simp; first | rfl | (rw [if_pos (by omega)]) | skip)
     try simp only [Act.put, iT, iZ, iS]
     refine takeT 6 (some 50) ?va6 ?hya6 sd ?resta6
     case hya6 => (intro o ho W hW; simp only [gT, gS, gZ, sI] at ho; subst ho; (try dsimp only at hW); have f0 := Shp.rd_blk (S := uS) hW; have f1 := hW.lt; go_simp; first | rfl | (rw [if_pos (by omega)]) | skip)
     try simp only [Act.put, iT, iZ, iS]
     refine nextS 5 (by kernel_rfl) (by rfl) (fun o ho K hK => ?_)
     simp only [gT, gS, gZ, sI] at ho; subst ho
     go_simp
     refine hK.out _ _ sd (fun _ => ?_)
     clear hK K
     try simp only [Act.put, iT, iZ, iS]
     refine nextS 7 (by kernel_rfl) (by rfl) (fun o ho K hK => ?_)
     simp only [gT, gS, gZ, sI] at ho; subst ho
     go_simp
     (go_at_call 20; (with_reducible refine (CW.out wd).mono ?_); rintro e w6 ⟨rfl, b6⟩)
     have s6 : Blk w6 wo.heap.size 41 (uS.v v) := sd.on b6
     refine hK.out _ _ s6 (fun _ => ?_)
     clear hK K
     try simp only [Act.put, iT, iZ, iS]
     have HO6 := Lib.hid (HOd.out.on b6)
     obtain ⟨w7, hst, ho7, hg7⟩ := ow_set_last HO6.out (D.wth y v) ad2 rfl
     rw [hm] at hst
     have HZ7 := Lib.hid ((HZd.out.trans (b6.mono HZd.out.size)).trans (ow_below HO6.out (by rw [own_blk HO6.out (by omega)]; exact hg7)))
     have HO7 := Lib.hid ho7
     have s7 : Blk w7 wo.heap.size 41 (uS.v v) := s6.grown hg7 (fun e => by injection e with e; omega)
     clear ho7 hg7
     refine takeT 8 (some 52) ?vb8 ?hyb8 s6 ?restb8
     case hyb8 => (intro o ho W hW; simp only [gT, gS, gZ, sI] at ho; subst ho; (try dsimp only at hW); go_simp; first | rfl | (rw [if_pos (by omega)]) | skip)
     try simp only [Act.put, iT, iZ, iS]
     refine nextS 9 (by kernel_rfl) (by rfl) (fun o ho K hK => ?_)
     simp only [gT, gS, gZ, sI] at ho; subst ho
     go_simp
     refine hK.out _ _ s7 (fun _ => ?_)
     clear hK K hst
     try simp only [Act.put, iT, iZ, iS]
     refine wpAnyH_done (by kernel_rfl) ?_ _
     refine NoPanic.normal ?_
     go_wp2_with fail
     go_roundw
     case rel => exact ⟨j + 1, some ad2, c, acc' ++ [D.wth y v], HLT.out, by go_num, by simp [hm], HFT, Lib.hid (by simpa [hm] using HO7.out), Lib.hid ⟨HU.out, by have := HM2.out; simp [hm]; omega⟩, HZ7⟩
     case measure => have := HLT.out; simp [intOf]; omega
    ·have hb : Nm.sm y.n v.n = false := by unfold Nm.sm; simpa using hn
     rw [D.addU_else hn] at hft
     have HFT := Kept.mk hft
     have HU : Hid (D.Usm ((j + 1) * 1001) (acc' ++ [y] ++ [v])) := Lib.hid (D.usm_app (D.usm_up HM.out.1 (by omega)) (D.usm_one hvh (by omega)))
     clear hn hft hvh hvt hyh hyt
     go_wp2_with fail
     go_quiet (fail)
     have HO2 : Hid (Ow 41 14 w4.heap.size ((wo.alloc (.cells (uS.v v) 41)).drewN nq) (some ad2) (m + 1) c (uS.rcs (acc' ++ [y]))) := Lib.hid (HO1.out.on (below_drewN (Below.refl _ _) nq))
     have HZ2 : Hid (Below w4.heap.size w4 ((wo.alloc (.cells (uS.v v) 41)).drewN nq)) := Lib.hid (below_drewN HZ1.out nq)
     go_wp2_with (at_builtin; refine gapp _ use_under use_info rfl (by decide) (by decide) rfl (.tmp 53) (.tmp 55) rfl rfl (HO2.out.alloc _) rfl (rw_use ((wo.alloc (.cells (uS.v v) 41)).drewN nq) _ (by simp) v _) (by intro u hu; exact uS.rcs_one _ u hu) (by omega) ?_; intro A5 c5 w5 h5 hg5 hor5; have H5 := Lib.hid h5; have HB5 := Lib.hid ((HZ2.out.trans ((below_alloc_ _ (.cells (uS.v v) 41)).mono HZ2.out.size)).trans (ow_below (HO2.out.alloc _) hg5)); clear h5 hg5 hor5)
     go_roundw
     case rel => exact ⟨j + 1, A5, c5, acc' ++ [y] ++ [v], HLT.out, by go_num, by simp [hm], HFT, Lib.hid (by have h := H5.out; rw [<- Shp.rcs_app] at h; simpa [hm] using h), Lib.hid ⟨HU.out, by have := HM2.out; simp [hm]; omega⟩, HB5⟩
     case measure => have := HLT.out; simp [intOf]; omega
  ·obtain rfl : j = NS := by omega
   have e1 : S.take j = S := List.take_of_length_le (by rw [HNS.out]; exact Nat.le_refl _)
   rw [e1] at HA
   clear e1
   go_wp2
   go_ret
   have e2 := HA.out
   refine ⟨A, c, S, HS1.out, by rw [HL.out]; exact HS2.out, ?_, by rw [e2]; exact HO.out.to_row, B4.out.trans (HZ.out.mono B4.out.size)⟩
   rw [e2]
   try rfl
end Go.Proofs.YtgnjjlgmlokhmaaGreatDoor
namespace Go.Proofs.YtgnjjlgmlokhmaaGreatDoor
namespace D
def ltL (a b : List Nat) : Prop := Nm.D.cmp a b = -1
instance (a b : List Nat) : Decidable (ltL a b) := by unfold ltL; infer_instance
theorem ltL_irr (a : List Nat) : ¬ ltL a a := by unfold ltL; rw [Nm.D.cmp_self]; decide
theorem ltL_tr {a b c : List Nat} (h : ltL a b) (k : ltL b c) : ltL a c := Nm.D.cmp_trans _ _ _ h k
theorem ltL_tot {a b : List Nat} (h : ¬ ltL a b) (k : a ≠ b) : ltL b a := by
 unfold ltL at h ⊢
 rw [Nm.D.cmp_neg]
 rcases Nm.D.cmp_in a b with e | e | e
 ·exact absurd e h
 ·exact absurd ((Nm.D.cmp_zero _ _).1 e) k
 ·rw [e]
theorem srt_uniq {α : Type} {R : α -> α -> Prop} (irr : ∀ a, ¬ R a a) (tr : ∀ a b c, R a b -> R b c -> R a c) : ∀ {l k : List α}, l.Pairwise R -> k.Pairwise R -> (∀ y, y ∈ l ↔ y ∈ k) -> l = k
 | [], [], _, _, _ => rfl
 | [], b :: k, _, _, h => by have := (h b).2 (by simp); cases this
 | a :: l, [], _, _, h => by have := (h a).1 (by simp); cases this
 | a :: l, b :: k, hl, hk, h => by
  rw [List.pairwise_cons] at hl hk
  have e : a = b := by
   rcases List.mem_cons.1 ((h a).1 (by simp)) with e | e
   ·exact e
   ·rcases List.mem_cons.1 ((h b).2 (by simp)) with e' | e'
    ·exact e'.symm
    ·exact absurd (tr _ _ _ (hl.1 b e') (hk.1 a e)) (irr a)
  subst e
  have : l = k := srt_uniq irr tr hl.2 hk.2 fun y => by
   constructor
   ·intro hy
    rcases List.mem_cons.1 ((h y).1 (by simp [hy])) with e | e
    ·subst e; exact absurd (hl.1 y hy) (irr y)
    ·exact e
   ·intro hy
    rcases List.mem_cons.1 ((h y).2 (by simp [hy])) with e | e
    ·subst e; exact absurd (hk.1 y hy) (irr y)
    ·exact e
  rw [this]
def insW : List (List Nat) -> List Nat -> List (List Nat)
 | [], s => [s]
 | x :: l, s => if ltL x s then x :: insW l s else if x = s then x :: l else s :: x :: l
theorem insW_mem : ∀ {l : List (List Nat)} {s y : List Nat}, y ∈ insW l s ↔ y = s ∨ y ∈ l
 | [], s, y => by simp [insW]
 | x :: l, s, y => by
  rw [insW]
  split
  ·rw [List.mem_cons, insW_mem, List.mem_cons]
   constructor
   ·rintro (h | h | h)
    ·exact .inr (.inl h)
    ·exact .inl h
    ·exact .inr (.inr h)
   ·rintro (h | h | h)
    ·exact .inr (.inl h)
    ·exact .inl h
    ·exact .inr (.inr h)
  ·split
   ·rename_i e
    subst e
    constructor
    ·intro h; exact .inr h
    ·rintro (h | h)
     ·subst h; simp
     ·exact h
   ·rw [List.mem_cons]
theorem insW_srt : ∀ {l : List (List Nat)} (s : List Nat), l.Pairwise ltL -> (insW l s).Pairwise ltL
 | [], s, _ => by simp [insW]
 | x :: l, s, h => by
  rw [List.pairwise_cons] at h
  rw [insW]
  split
  ·rename_i h1
   rw [List.pairwise_cons]
   exact ⟨fun y hy => by
    rcases insW_mem.1 hy with rfl | hy
    ·exact h1
    ·exact h.1 y hy, insW_srt s h.2⟩
  ·split
   ·rw [List.pairwise_cons]; exact h
   ·rename_i h1 h2
    have h3 := ltL_tot h1 h2
    rw [List.pairwise_cons, List.pairwise_cons]
    exact ⟨fun y hy => by
     rcases List.mem_cons.1 hy with rfl | hy
     ·exact h3
     ·exact ltL_tr h3 (h.1 y hy), h⟩
theorem insW_end : ∀ {l : List (List Nat)} {s : List Nat}, (∀ x ∈ l, ltL x s) -> insW l s = l ++ [s]
 | [], s, _ => rfl
 | x :: l, s, h => by
  rw [insW, if_pos (h x (by simp)), insW_end fun y hy => h y (by simp [hy])]
  rfl
def insWs (l k : List (List Nat)) : List (List Nat) := k.foldl insW l
theorem insWs_mem : ∀ {k l : List (List Nat)} {y : List Nat}, y ∈ insWs l k ↔ y ∈ k ∨ y ∈ l
 | [], l, y => by simp [insWs]
 | s :: k, l, y => by
  have := insWs_mem (k := k) (l := insW l s) (y := y)
  rw [show insWs l (s :: k) = insWs (insW l s) k from rfl, this, insW_mem, List.mem_cons]
  constructor
  ·rintro (h | h | h)
   ·exact .inl (.inr h)
   ·exact .inl (.inl h)
   ·exact .inr h
  ·rintro ((h | h) | h)
   ·exact .inr (.inl h)
   ·exact .inl h
   ·exact .inr (.inr h)
theorem insWs_srt : ∀ {k l : List (List Nat)}, l.Pairwise ltL -> (insWs l k).Pairwise ltL
 | [], l, h => h
 | s :: k, l, h => insWs_srt (k := k) (insW_srt s h)
structure Du where
 n : Nm.D.Nm
 h : Nat
 ws : List (List Nat)
def ltD (a b : Du) : Prop := ltL a.n.l b.n.l
def updD (x : Du) (h : Nat) (ws : List (List Nat)) : Du := ⟨x.n, if x.h / h % 2 = 0 then x.h + h else x.h, insWs x.ws ws⟩
def newD (u : Du) : Du := ⟨u.n, u.h, insWs [] u.ws⟩
def addD : List Du -> Du -> List Du
 | [], u => [newD u]
 | x :: l, u => if ltL x.n.l u.n.l then x :: addD l u else if x.n = u.n then updD x u.h u.ws :: l else newD u :: x :: l
theorem addD_mem : ∀ {d : List Du} {u y : Du}, d.Pairwise ltD -> (y ∈ addD d u ↔ (y ∈ d ∧ y.n ≠ u.n) ∨ (∃ x ∈ d, x.n = u.n ∧ y = updD x u.h u.ws) ∨ ((∀ x ∈ d, x.n ≠ u.n) ∧ y = newD u))
 | [], u, y, _ => by simp [addD]
 | x :: l, u, y, h => by
  rw [List.pairwise_cons] at h
  rw [addD]
  split
  ·rename_i h1
   have hx : x.n ≠ u.n := fun e => by rw [e] at h1; exact ltL_irr _ h1
   rw [List.mem_cons, addD_mem h.2]
   constructor
   ·rintro (rfl | ⟨h2, h3⟩ | ⟨z, h2, h3⟩ | ⟨h2, h3⟩)
    ·exact .inl ⟨by simp, hx⟩
    ·exact .inl ⟨by simp [h2], h3⟩
    ·exact .inr (.inl ⟨z, by simp [h2], h3⟩)
    ·refine .inr (.inr ⟨fun z hz => ?_, h3⟩)
     rcases List.mem_cons.1 hz with rfl | hz
     ·exact hx
     ·exact h2 z hz
   ·rintro (⟨h2, h3⟩ | ⟨z, h2, h3⟩ | ⟨h2, h3⟩)
    ·rcases List.mem_cons.1 h2 with rfl | h2
     ·exact .inl rfl
     ·exact .inr (.inl ⟨h2, h3⟩)
    ·rcases List.mem_cons.1 h2 with rfl | h2
     ·exact absurd h3.1 hx
     ·exact .inr (.inr (.inl ⟨z, h2, h3⟩))
    ·exact .inr (.inr (.inr ⟨fun z hz => h2 z (by simp [hz]), h3⟩))
  ·rename_i h0
   split
   ·rename_i h1
    have hl : ∀ z ∈ l, z.n ≠ u.n := fun z hz e => by
     have := h.1 z hz
     unfold ltD at this
     rw [e, h1] at this
     exact ltL_irr _ this
    rw [List.mem_cons]
    constructor
    ·rintro (rfl | h2)
     ·exact .inr (.inl ⟨x, by simp, h1, rfl⟩)
     ·exact .inl ⟨by simp [h2], hl y h2⟩
    ·rintro (⟨h2, h3⟩ | ⟨z, h2, h3, h4⟩ | ⟨h2, h3⟩)
     ·rcases List.mem_cons.1 h2 with rfl | h2
      ·exact absurd h1 h3
      ·exact .inr h2
     ·rcases List.mem_cons.1 h2 with rfl | h2
      ·exact .inl h4
      ·exact absurd h3 (hl z h2)
     ·exact absurd h1 (h2 x (by simp))
   ·rename_i h1
    have h5 : ltL u.n.l x.n.l := ltL_tot h0 fun e => h1 (Nm.D.Nm.eq e)
    have hl : ∀ z ∈ x :: l, z.n ≠ u.n := fun z hz e => by
     rcases List.mem_cons.1 hz with rfl | hz
     ·exact h1 e
     ·have h6 := ltL_tr h5 (h.1 z hz)
      rw [e] at h6
      exact ltL_irr _ h6
    rw [List.mem_cons]
    constructor
    ·rintro (rfl | h2)
     ·exact .inr (.inr ⟨hl, rfl⟩)
     ·exact .inl ⟨h2, hl y h2⟩
    ·rintro (⟨h2, h3⟩ | ⟨z, h2, h3, h4⟩ | ⟨h2, h3⟩)
     ·exact .inr h2
     ·exact absurd h3 (hl z h2)
     ·exact .inl h3
theorem addD_srt : ∀ {d : List Du} (u : Du), d.Pairwise ltD -> (addD d u).Pairwise ltD
 | [], u, _ => by simp [addD]
 | x :: l, u, h => by
  have h0 := h
  rw [List.pairwise_cons] at h
  rw [addD]
  split
  ·rename_i h1
   rw [List.pairwise_cons]
   refine ⟨fun y hy => ?_, addD_srt u h.2⟩
   rcases (addD_mem h.2).1 hy with ⟨h2, _⟩ | ⟨z, h2, h3, rfl⟩ | ⟨_, rfl⟩
   ·exact h.1 y h2
   ·exact h.1 z h2
   ·exact h1
  ·rename_i h1
   split
   ·rw [List.pairwise_cons]
    exact ⟨fun y hy => h.1 y hy, h.2⟩
   ·rename_i h2
    have h5 : ltL u.n.l x.n.l := ltL_tot h1 fun e => h2 (Nm.D.Nm.eq e)
    rw [List.pairwise_cons]
    refine ⟨fun y hy => ?_, h0⟩
    rcases List.mem_cons.1 hy with rfl | hy
    ·exact h5
    ·exact ltL_tr h5 (h.1 y hy)
theorem addD_end : ∀ {d : List Du} {u : Du}, (∀ x ∈ d, ltL x.n.l u.n.l) -> addD d u = d ++ [newD u]
 | [], u, _ => rfl
 | x :: l, u, h => by
  rw [addD, if_pos (h x (by simp)), addD_end fun y hy => h y (by simp [hy])]
  rfl
theorem addD_last : ∀ {d : List Du} {y u : Du}, (∀ x ∈ d, ltL x.n.l u.n.l) -> y.n = u.n -> addD (d ++ [y]) u = d ++ [updD y u.h u.ws]
 | [], y, u, _, e => by
  show addD [y] u = _
  rw [addD, if_neg (by rw [e]; exact ltL_irr _), if_pos e]
  rfl
 | x :: l, y, u, h, e => by
  rw [List.cons_append, addD, if_pos (h x (by simp)), addD_last (fun z hz => h z (by simp [hz])) e]
  rfl
structure Rep (T : List Uv) (d : List Du) : Prop where
 srt : d.Pairwise ltD
 ord : ∀ x ∈ d, x.ws.Pairwise ltL
 src : ∀ x ∈ d, ∃ v ∈ T, v.n = x.n
 all : ∀ v ∈ T, ∃ x ∈ d, x.n = v.n
 bit : ∀ x ∈ d, ∀ b, b = 1 ∨ b = 2 ∨ b = 4 -> (x.h / b % 2 = 1 ↔ ∃ v ∈ T, v.n = x.n ∧ v.h = b)
 lt8 : ∀ x ∈ d, x.h < 8
 wrd : ∀ x ∈ d, ∀ w, w ∈ x.ws ↔ ∃ v ∈ T, v.n = x.n ∧ v.h = 4 ∧ ns v.t = w
theorem Rep.nil : Rep [] [] := ⟨List.Pairwise.nil, by simp, by simp, by simp, by simp, by simp, by simp⟩
theorem Rep.congr {T T' : List Uv} {d : List Du} (h : Rep T d) (e : ∀ v, v ∈ T ↔ v ∈ T') : Rep T' d :=
 ⟨h.srt, h.ord, fun x hx => by obtain ⟨v, h1, h2⟩ := h.src x hx; exact ⟨v, (e v).1 h1, h2⟩, fun v hv => h.all v ((e v).2 hv),
   fun x hx b hb => by rw [h.bit x hx b hb]; exact ⟨fun ⟨v, h1, h2⟩ => ⟨v, (e v).1 h1, h2⟩, fun ⟨v, h1, h2⟩ => ⟨v, (e v).2 h1, h2⟩⟩, h.lt8,
   fun x hx w => by rw [h.wrd x hx w]; exact ⟨fun ⟨v, h1, h2⟩ => ⟨v, (e v).1 h1, h2⟩, fun ⟨v, h1, h2⟩ => ⟨v, (e v).2 h1, h2⟩⟩⟩
theorem Rep.sub {T : List Uv} {d d' : List Du} (h : Rep T d) (h' : Rep T d') {x : Du} (hx : x ∈ d) : x ∈ d' := by
 obtain ⟨v, hv, e⟩ := h.src x hx
 obtain ⟨x', hx', e'⟩ := h'.all v hv
 have en : x.n = x'.n := by rw [<- e, e']
 have hb : ∀ b, b = 1 ∨ b = 2 ∨ b = 4 -> (x.h / b % 2 = 1 ↔ x'.h / b % 2 = 1) := fun b hb => by rw [h.bit x hx b hb, h'.bit x' hx' b hb, en]
 have h1 := hb 1 (by simp)
 have h2 := hb 2 (by simp)
 have h4 := hb 4 (by simp)
 have h8 := h.lt8 x hx
 have h8' := h'.lt8 x' hx'
 have eh : x.h = x'.h := by omega
 have ew : x.ws = x'.ws := srt_uniq ltL_irr (fun _ _ _ => ltL_tr) (h.ord x hx) (h'.ord x' hx') fun w => by rw [h.wrd x hx w, h'.wrd x' hx' w, en]
 have : x = x' := by cases x; cases x'; simp only at en eh ew; subst en eh ew; rfl
 rw [this]; exact hx'
theorem Rep.uniq {T : List Uv} {d d' : List Du} (h : Rep T d) (h' : Rep T d') : d = d' :=
 srt_uniq (R := ltD) (fun a => ltL_irr _) (fun _ _ _ => ltL_tr) h.srt h'.srt fun y => ⟨h.sub h', h'.sub h⟩
structure St (u : Du) (T : List Uv) : Prop where
 h : u.h = 1 ∨ u.h = 2 ∨ u.h = 4
 some : T ≠ []
 all : ∀ v ∈ T, v.n = u.n ∧ v.h = u.h
 wrd : ∀ w, w ∈ u.ws ↔ ∃ v ∈ T, u.h = 4 ∧ ns v.t = w
theorem Rep.step {T T' : List Uv} {d : List Du} {u : Du} (h : Rep T d) (k : St u T') : Rep (T ++ T') (addD d u) := by
 have hm := fun y => addD_mem (u := u) (y := y) h.srt
 obtain ⟨v0, hv0⟩ := List.exists_mem_of_ne_nil _ k.some
 have hu := k.h
 refine ⟨addD_srt u h.srt, fun x hx => ?_, fun x hx => ?_, fun v hv => ?_, fun x hx b hb => ?_, fun x hx => ?_, fun x hx w => ?_⟩
 ·rcases (hm x).1 hx with ⟨h1, _⟩ | ⟨z, h1, h2, rfl⟩ | ⟨_, rfl⟩
  ·exact h.ord x h1
  ·exact insWs_srt (h.ord z h1)
  ·exact insWs_srt List.Pairwise.nil
 ·rcases (hm x).1 hx with ⟨h1, _⟩ | ⟨z, h1, h2, rfl⟩ | ⟨_, rfl⟩
  ·obtain ⟨v, h2, h3⟩ := h.src x h1
   exact ⟨v, by simp [h2], h3⟩
  ·exact ⟨v0, by simp [hv0], by rw [(k.all v0 hv0).1]; exact h2.symm⟩
  ·exact ⟨v0, by simp [hv0], (k.all v0 hv0).1⟩
 ·have key : ∀ z ∈ d, z.n = v.n -> ∃ x ∈ addD d u, x.n = v.n := fun z hz e => by
   by_cases e2 : z.n = u.n
   ·exact ⟨updD z u.h u.ws, (hm _).2 (.inr (.inl ⟨z, hz, e2, rfl⟩)), e⟩
   ·exact ⟨z, (hm _).2 (.inl ⟨hz, e2⟩), e⟩
  rcases List.mem_append.1 hv with hv | hv
  ·obtain ⟨z, hz, e⟩ := h.all v hv
   exact key z hz e
  ·have e1 := (k.all v hv).1
   by_cases he : ∃ z ∈ d, z.n = u.n
   ·obtain ⟨z, hz, e2⟩ := he
    exact key z hz (by rw [e1, e2])
   ·exact ⟨newD u, (hm _).2 (.inr (.inr ⟨fun x hx e => he ⟨x, hx, e⟩, rfl⟩)), e1.symm⟩
 ·rcases (hm x).1 hx with ⟨h1, h0⟩ | ⟨z, h1, h2, rfl⟩ | ⟨h0, rfl⟩
  ·rw [h.bit x h1 b hb]
   constructor
   ·rintro ⟨v, h2, h3⟩; exact ⟨v, by simp [h2], h3⟩
   ·rintro ⟨v, h2, h3, h4⟩
    rcases List.mem_append.1 h2 with h2 | h2
    ·exact ⟨v, h2, h3, h4⟩
    ·exact absurd (h3.symm.trans (k.all v h2).1) h0
  ·have hz8 := h.lt8 z h1
   have hzb := h.bit z h1 b hb
   have e1 : ((updD z u.h u.ws).h / b % 2 = 1) ↔ (z.h / b % 2 = 1 ∨ b = u.h) := by
    unfold updD
    rcases hb with rfl | rfl | rfl <;> rcases hu with e | e | e <;> simp only [e] <;> split <;> first | omega | (simp; omega) | simp
   rw [e1, hzb]
   constructor
   ·rintro (⟨v, h3, h4⟩ | rfl)
    ·exact ⟨v, by simp [h3], h4⟩
    ·exact ⟨v0, by simp [hv0], by rw [(k.all v0 hv0).1]; exact h2.symm, (k.all v0 hv0).2⟩
   ·rintro ⟨v, h3, h4, h5⟩
    rcases List.mem_append.1 h3 with h3 | h3
    ·exact .inl ⟨v, h3, h4, h5⟩
    ·exact .inr (h5.symm.trans (k.all v h3).2)
  ·have e1 : ((newD u).h / b % 2 = 1) ↔ b = u.h := by
    unfold newD
    rcases hb with rfl | rfl | rfl <;> rcases hu with e | e | e <;> simp only [e] <;> omega
   rw [e1]
   constructor
   ·rintro rfl
    exact ⟨v0, by simp [hv0], (k.all v0 hv0).1, (k.all v0 hv0).2⟩
   ·rintro ⟨v, h3, h4, h5⟩
    rcases List.mem_append.1 h3 with h3 | h3
    ·obtain ⟨z, hz, e⟩ := h.all v h3
     exact absurd (e.trans h4) (h0 z hz)
    ·exact h5.symm.trans (k.all v h3).2
 ·rcases (hm x).1 hx with ⟨h1, _⟩ | ⟨z, h1, h2, rfl⟩ | ⟨_, rfl⟩
  ·exact h.lt8 x h1
  ·have := h.lt8 z h1
   unfold updD
   rcases hu with e | e | e <;> simp only [e] <;> split <;> omega
  ·unfold newD
   simp only
   omega
 ·rcases (hm x).1 hx with ⟨h1, h0⟩ | ⟨z, h1, h2, rfl⟩ | ⟨h0, rfl⟩
  ·rw [h.wrd x h1 w]
   constructor
   ·rintro ⟨v, h2, h3⟩; exact ⟨v, by simp [h2], h3⟩
   ·rintro ⟨v, h2, h3, h4⟩
    rcases List.mem_append.1 h2 with h2 | h2
    ·exact ⟨v, h2, h3, h4⟩
    ·exact absurd (h3.symm.trans (k.all v h2).1) h0
  ·show w ∈ insWs z.ws u.ws ↔ _
   rw [insWs_mem, h.wrd z h1 w, k.wrd w]
   constructor
   ·rintro (⟨v, h3, h4, h5⟩ | ⟨v, h3, h4⟩)
    ·exact ⟨v, by simp [h3], by rw [(k.all v h3).1]; exact h2.symm, by rw [(k.all v h3).2, h4], h5⟩
    ·exact ⟨v, by simp [h3], h4⟩
   ·rintro ⟨v, h3, h4, h5, h6⟩
    rcases List.mem_append.1 h3 with h3 | h3
    ·exact .inr ⟨v, h3, h4, h5, h6⟩
    ·exact .inl ⟨v, h3, by rw [<- (k.all v h3).2, h5], h6⟩
  ·show w ∈ insWs [] u.ws ↔ _
   rw [insWs_mem, k.wrd w]
   constructor
   ·rintro (⟨v, h3, h4, h5⟩ | h3)
    ·exact ⟨v, by simp [h3], (k.all v h3).1, by rw [(k.all v h3).2, h4], h5⟩
    ·cases h3
   ·rintro ⟨v, h3, h4, h5, h6⟩
    rcases List.mem_append.1 h3 with h3 | h3
    ·obtain ⟨z, hz, e⟩ := h.all v h3
     exact absurd (e.trans h4) (h0 z hz)
    ·exact .inl ⟨v, h3, by rw [<- (k.all v h3).2, h5], h6⟩
end D
end Go.Proofs.YtgnjjlgmlokhmaaGreatDoor
namespace Go.Proofs.YtgnjjlgmlokhmaaGreatDoor
namespace D
def usO (x : Nd) (d : List Du) : List Du := if x.k = 1 then addD d ⟨pnm x, 1, []⟩ else if x.k = 2 ∨ x.k = 3 then addD d ⟨pnm x, 2, []⟩ else if x.k = 4 then addD d ⟨pnm x, 4, x.ws⟩ else d
def usK (U : List Nd -> List Du -> List Du) : List (List Nd) -> List Du -> List Du
 | [], d => d
 | q :: ks, d => usK U ks (U q d)
def usL (U : List Nd -> List Du -> List Du) : List Nd -> List Du -> List Du
 | [], d => d
 | x :: l, d => usL U l (usK U x.ks (usO x d))
def us : Nat -> List Nd -> List Du -> List Du
 | 0, l, d => usL (fun _ d => d) l d
 | r + 1, l, d => usL (us r) l d
theorem usK_rep {U : List Nd -> List Du -> List Du} {G : List Nd -> List Uv} : ∀ {ks : List (List Nd)} {T : List Uv} {d : List Du}, (∀ q ∈ ks, ∀ T d, Rep T d -> Rep (T ++ G q) (U q d)) -> Rep T d -> Rep (T ++ ks.flatMap G) (usK U ks d)
 | [], T, d, _, h => by simpa [usK] using h
 | q :: ks, T, d, hU, h => by
  have h1 := hU q (by simp) T d h
  have h2 := usK_rep (ks := ks) (fun q' hq' => hU q' (by simp [hq'])) h1
  rw [usK, List.flatMap_cons, <- List.append_assoc]
  exact h2
theorem gtC_mem {k : Nat} {m : Nm.D.Nm} {G : List Nd -> List Uv} : ∀ {ws : List (List Nat)} {ks : List (List Nd)} {v : Uv}, ws.length = ks.length -> (v ∈ gtC k m G ws ks ↔ (k = 4 ∧ ∃ w ∈ ws, v = ⟨m, 4, sb w⟩) ∨ v ∈ ks.flatMap G)
 | [], [], v, _ => by simp [gtC]
 | [], _ :: _, v, h => by simp at h
 | _ :: _, [], v, h => by simp at h
 | w :: ws, q :: ks, v, h => by
  have ih := gtC_mem (k := k) (m := m) (G := G) (ws := ws) (ks := ks) (v := v) (by simpa using h)
  rw [gtC, List.mem_append, List.mem_append, ih, List.flatMap_cons, List.mem_append]
  by_cases hk : k = 4
  ·rw [if_pos hk]
   simp only [hk, true_and, List.mem_cons, List.not_mem_nil, or_false, exists_eq_or_imp]
   constructor
   ·rintro (h | h | h | h)
    ·exact .inl (.inl h)
    ·exact .inr (.inl h)
    ·exact .inl (.inr h)
    ·exact .inr (.inr h)
   ·rintro ((h | h) | h | h)
    ·exact .inl h
    ·exact .inr (.inr (.inl h))
    ·exact .inr (.inl h)
    ·exact .inr (.inr (.inr h))
  ·rw [if_neg hk]
   simp [hk]
theorem okWd_mem {k : Nat} : ∀ {ws a : List (List Nat)}, okWd k a ws -> ∀ w ∈ ws, w ≠ [] ∧ ∀ c ∈ w, c < 256
 | [], a, _, w, h => by cases h
 | v :: ws, a, h, w, hw => by
  obtain ⟨h1, h2, _, h4⟩ := h
  rcases List.mem_cons.1 hw with rfl | hw
  ·refine ⟨h1, fun c hc => ?_⟩
   have := h2 c hc
   simp [wdB] at this
   omega
  ·exact okWd_mem h4 w hw
theorem usP_rep {ch v : Bool} {kids : Bool -> List Nd -> Prop} {x : Nd} {U : List Nd -> List Du -> List Du} {G : List Nd -> List Uv} (ho : okNd ch kids v x) (hU : ∀ q ∈ x.ks, ∀ T d, Rep T d -> Rep (T ++ G q) (U q d)) {T : List Uv} {d : List Du} (h : Rep T d) : Rep (T ++ gtP G x) (usK U x.ks (usO x d)) := by
 unfold gtP
 rcases ho with ⟨hk, _, e2, e3, _⟩ | ⟨e, _⟩ | ⟨hk, _, e2, e3, _⟩ | ⟨hk, _, _, _, hl, hoth, hw, _⟩
 ·rw [e2, e3]
  simpa [usK, usO, hk, gtO, gtC] using h
 ·rw [e]
  simpa [usK, usO, gtO, gtC, Nd.k, Nd.ks, Nd.ws] using h
 ·rw [e2, e3]
  rcases hk with hk | hk
  ·have h1 := h.step (u := ⟨pnm x, 1, []⟩) (T' := [⟨pnm x, 1, ⟨#[]⟩⟩]) ⟨.inl rfl, by simp, by simp, by simp⟩
   simpa [usK, usO, hk, gtO, gtC] using h1
  ·have h1 := h.step (u := ⟨pnm x, 2, []⟩) (T' := [⟨pnm x, 2, ⟨#[]⟩⟩]) ⟨.inr (.inl rfl), by simp, by simp, by simp⟩
   simpa [usK, usO, hk, gtO, gtC] using h1
 ·rcases hk with hk | hk
  ·have h1 := h.step (u := ⟨pnm x, 2, []⟩) (T' := [⟨pnm x, 2, ⟨#[]⟩⟩]) ⟨.inr (.inl rfl), by simp, by simp, by simp⟩
   have h2 := usK_rep hU h1
   have e1 : usO x d = addD d ⟨pnm x, 2, []⟩ := by simp [usO, hk]
   rw [e1]
   refine h2.congr fun v => ?_
   rw [List.mem_append, List.mem_append, List.mem_append, List.mem_append, gtC_mem hl, hk]
   simp [gtO, or_assoc]
  ·have hst : St ⟨pnm x, 4, x.ws⟩ (x.ws.map fun w => ⟨pnm x, 4, sb w⟩) := by
    refine ⟨.inr (.inr rfl), fun e => ?_, fun v hv => ?_, fun w => ⟨fun hw' => ?_, ?_⟩⟩
    ·rw [List.map_eq_nil_iff] at e
     rw [e] at hoth; cases hoth
    ·obtain ⟨w, _, rfl⟩ := List.mem_map.1 hv
     exact ⟨rfl, rfl⟩
    ·exact ⟨_, List.mem_map.2 ⟨w, hw', rfl⟩, rfl, ns_sb (okWd_mem hw w hw').2⟩
    ·rintro ⟨v, hv, _, e⟩
     obtain ⟨w', hw', rfl⟩ := List.mem_map.1 hv
     have := ns_sb (okWd_mem hw w' hw').2
     simp only at e
     rw [this] at e
     rw [<- e]; exact hw'
   have h1 := h.step hst
   have h2 := usK_rep hU h1
   have e1 : usO x d = addD d ⟨pnm x, 4, x.ws⟩ := by simp [usO, hk]
   rw [e1]
   refine h2.congr fun v => ?_
   rw [List.mem_append, List.mem_append, List.mem_append, List.mem_append, gtC_mem hl, hk, List.mem_map]
   simp [gtO, or_assoc, eq_comm]
theorem usL_rep {ch v : Bool} {kids : Bool -> List Nd -> Prop} {U : List Nd -> List Du -> List Du} {G : List Nd -> List Uv} : ∀ {pt : Bool} {l : List Nd}, okLs (okNd ch kids v) pt l -> (∀ x ∈ l, ∀ q ∈ x.ks, ∀ T d, Rep T d -> Rep (T ++ G q) (U q d)) -> ∀ {T : List Uv} {d : List Du}, Rep T d -> Rep (T ++ gtL G l) (usL U l d)
 | _, [], _, _, T, d, h => by simpa [gtL, usL] using h
 | _, x :: l, ho, hU, T, d, h => by
  have h1 := usP_rep ho.1 (hU x (by simp)) h
  have h2 := usL_rep ho.2.2 (fun y hy => hU y (by simp [hy])) h1
  rw [gtL, usL, <- List.append_assoc]
  exact h2
theorem us_rep : ∀ (r : Nat) {v : Bool} {l : List Nd}, Rt r v l -> ∀ {T : List Uv} {d : List Du}, Rep T d -> Rep (T ++ gth r l) (us r l d)
 | 0, v, l, h, T, d, hr => usL_rep (ch := false) (v := v) (kids := fun _ _ => False) h (fun x hx q hq => by
   have ho := okLs_mem h x hx
   rcases ho with ⟨_, _, _, e, _⟩ | ⟨e, _⟩ | ⟨_, _, _, e, _⟩ | ⟨_, e, _⟩
   ·rw [e] at hq; cases hq
   ·rw [e] at hq; cases hq
   ·rw [e] at hq; cases hq
   ·cases e) hr
 | r + 1, v, l, h, T, d, hr => usL_rep (ch := true) (v := v) (kids := Rt r) h (fun x hx q hq T d hr => by
   have ho := okLs_mem h x hx
   rcases ho with ⟨_, _, _, e, _⟩ | ⟨e, _⟩ | ⟨_, _, _, e, _⟩ | ⟨_, _, _, _, _, _, _, e⟩
   ·rw [e] at hq; cases hq
   ·rw [e] at hq; cases hq
   ·rw [e] at hq; cases hq
   ·exact us_rep r (e q hq) hr) hr
def Ugd (v : Uv) : Prop := ((v.h = 1 ∨ v.h = 2) ∧ v.t = ⟨#[]⟩) ∨ (v.h = 4 ∧ v.t.size ≠ 0)
theorem gtP_gd {ch v : Bool} {kids : Bool -> List Nd -> Prop} {x : Nd} {G : List Nd -> List Uv} (ho : okNd ch kids v x) (h : ∀ q ∈ x.ks, ∀ y ∈ G q, Ugd y) : ∀ y ∈ gtP G x, Ugd y := by
 intro y hy
 unfold gtP at hy
 have hO : ∀ y ∈ gtO x.k (pnm x), Ugd y := fun y hy => by
  unfold gtO at hy
  split at hy
  ·simp only [List.mem_singleton] at hy; subst hy; exact .inl ⟨.inl rfl, rfl⟩
  ·split at hy
   ·simp only [List.mem_singleton] at hy; subst hy; exact .inl ⟨.inr rfl, rfl⟩
   ·cases hy
 rcases List.mem_append.1 hy with hy | hy
 ·exact hO y hy
 ·rcases ho with ⟨hk, _, e2, e3, _⟩ | ⟨e, _⟩ | ⟨hk, _, e2, e3, _⟩ | ⟨hk, _, _, _, hl, hoth, hw, _⟩
  ·rw [e2, e3] at hy; simp [gtC] at hy
  ·rw [e] at hy; simp [gtC, Nd.ws, Nd.ks] at hy
  ·rw [e2, e3] at hy; simp [gtC] at hy
  ·rcases (gtC_mem hl).1 hy with ⟨_, w, hw', rfl⟩ | hy
   ·refine .inr ⟨rfl, ?_⟩
    rw [sb_len]
    intro e
    exact (okWd_mem hw w hw').1 (List.eq_nil_of_length_eq_zero e)
   ·obtain ⟨q, hq, hy⟩ := List.mem_flatMap.1 hy
    exact h q hq y hy
theorem gtL_gd {ch v : Bool} {kids : Bool -> List Nd -> Prop} {G : List Nd -> List Uv} : ∀ {pt : Bool} {l : List Nd}, okLs (okNd ch kids v) pt l -> (∀ x ∈ l, ∀ q ∈ x.ks, ∀ y ∈ G q, Ugd y) -> ∀ y ∈ gtL G l, Ugd y
 | _, [], _, _, y, h => by simp [gtL] at h
 | _, x :: l, ho, hU, y, h => by
  rw [gtL, List.mem_append] at h
  rcases h with h | h
  ·exact gtP_gd ho.1 (hU x (by simp)) y h
  ·exact gtL_gd ho.2.2 (fun y hy => hU y (by simp [hy])) y h
theorem gth_gd : ∀ (r : Nat) {v : Bool} {l : List Nd}, Rt r v l -> ∀ y ∈ gth r l, Ugd y
 | 0, v, l, h => gtL_gd (ch := false) (v := v) (kids := fun _ _ => False) h fun x hx q hq y hy => by cases hy
 | r + 1, v, l, h => gtL_gd (ch := true) (v := v) (kids := Rt r) h fun x hx q hq => by
   have ho := okLs_mem h x hx
   rcases ho with ⟨_, _, _, e, _⟩ | ⟨e, _⟩ | ⟨_, _, _, e, _⟩ | ⟨_, _, _, _, _, _, _, e⟩
   ·rw [e] at hq; cases hq
   ·rw [e] at hq; cases hq
   ·rw [e] at hq; cases hq
   ·exact gth_gd r (e q hq)
end D
end Go.Proofs.YtgnjjlgmlokhmaaGreatDoor
