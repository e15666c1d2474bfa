/-
  
-/
import Derived.Test.YtjlaffgbmcpldaaGreatDoorG38
import Derived.Test.YtjlaffgbmcpldaaGreatDoorG33
import Derived.Test.YtjlaffgbmcpldaaGreatDoorG27
set_option linter.unusedVariables false
set_option linter.unusedSimpArgs false
set_option maxRecDepth 100000
namespace Go.Proofs.YtjlaffgbmcpldaaGreatDoor
open Go.RowKit
namespace D
def pZ : Px := ⟨zK, 0, by decide⟩
end D
theorem run_bdp_z (w : World) : (bdp #[]).run Tryz.prog w = .ok (.agg (pS.v D.pZ)) w := by kernel_rfl
end Go.Proofs.YtjlaffgbmcpldaaGreatDoor
namespace Go.Proofs.YtjlaffgbmcpldaaGreatDoor
open Go.RowKit
namespace D
def r0 : Rc := ⟨1, 0, 0, 0, 0, false, 0, 0, ⟨#[]⟩⟩
def y1 : Wt := ⟨k1, false, r0⟩
theorem wy1 : wwg y1 = 0 := by
 unfold wwg
 rw [show kright y1.k = true from kr1]
 decide +kernel
theorem sy1 : sck [y1] = 0 := by simp [sck, wck, wy1]
theorem yw1 : ∀ x ∈ [y1], x.r.wf := by
 intro x hx
 simp at hx
 subst hx
 exact ⟨by decide, by decide, by decide, by decide, by decide, by decide, by decide⟩
def Mk : Nat → Sm
 | 0 => .zero
 | i + 1 => (Mk i).app [y1]
theorem Mk_last : ∀ i, (Mk i).last = i
 | 0 => rfl
 | i + 1 => by rw [Mk, Sm.app_last, Mk_last i]
theorem Mk_len : ∀ i, (Mk i).ks.length ≤ i
 | 0 => Nat.le_refl _
 | i + 1 => by
  have h := Sm.puts_len [y1] (Mk i).tick
  have h2 := Mk_len i
  have h3 : (Mk i).tick.ks = (Mk i).ks := rfl
  rw [h3] at h
  show ((Mk i).tick.puts [y1]).ks.length ≤ _
  simp only [List.length_cons, List.length_nil] at h
  omega
theorem Mk_wf : ∀ i, i ≤ 10 → (Mk i).wf
 | 0, _ => Sm.zero_wf
 | i + 1, h => Sm.app_wf (Mk_wf i (by omega)) sy1 yw1 (by rw [Mk_last]; omega)
theorem Mk_err (i : Nat) (h : i ≤ 10) : (Mk i).err [y1] = 0 := by
 have h1 := grs_bd (Mk i) [y1]
 have h2 : (Mk i).live ≤ (Mk i).ks.length := List.countP_le_length
 have h3 := Mk_len i
 unfold Sm.err
 rw [sy1, if_neg (by simp), grw_eq, if_neg]
 simp only [List.length_cons, List.length_nil] at h1
 omega
theorem Mk_pub (i : Nat) (h : i ≤ 10) : (Mk i).pub [y1] = Mk (i + 1) := by
 unfold Sm.pub
 rw [if_pos (Mk_err i h)]; rfl
theorem Mk_f (i : Nat) : (Mk (i + 1)).f k1 = (Mk i).f k1 ++ [vof y1 ((Mk i).last + 1)] := Sm.app_in (M := Mk i) sy1 (x := y1) (by simp)
theorem Mk_no : ∀ (i : Nat) {k : Ky}, k ≠ k1 → (Mk i).f k = []
 | 0, _, _ => rfl
 | i + 1, k, h => (Sm.puts_out [y1] (Mk i).tick fun x hx e => h (by simp at hx; subst hx; exact e.symm)).trans (Mk_no i h)
def M3 : Sm := Mk 3
theorem M3_f : M3.f k1 = [vof y1 1, vof y1 2, vof y1 3] := by
 unfold M3
 rw [Mk_f 2, Mk_f 1, Mk_f 0, Mk_last, Mk_last, Mk_last]; rfl
theorem M3_wf : M3.wf := Mk_wf 3 (by decide)
theorem M3_ks : M3.ks = [k1] := by
 refine Kup.ext M3_wf.up (List.pairwise_singleton _ _) fun k => ?_
 rw [M3_wf.mem, List.mem_singleton]
 by_cases e : k = k1
 ·subst e; simp [M3_f]
 ·simp [e, M3, Mk_no 3 e]
theorem k1_ne : k1 ≠ zK := by decide +kernel
theorem M3_nxt : M3.nxt zK = some k1 := by
 unfold Sm.nxt
 rw [M3_ks, List.find?_cons, zK_lt k1_ne]
theorem M3_trm : trm [] (M3.f k1) = [vof y1 3] := by
 rw [M3_f]
 decide +kernel
theorem M3_went : M3.went k1 [] = 2 := by
 unfold Sm.went
 rw [M3_trm, M3_f]; rfl
def M4 : Sm := M3.trim k1 []
theorem M4_ks : M4.ks = [k1] := by
 have h : M4.ks = if trm [] (M3.f k1) = [] then M3.ks.filter (fun y => decide (y ≠ k1)) else M3.ks := rfl
 rw [h, M3_trm, if_neg (by simp), M3_ks]
theorem M4_nxt : M4.nxt k1 = none := by
 unfold Sm.nxt
 rw [M4_ks, List.find?_cons, Cr.lt_irr]; rfl
theorem M4_vers : M4.vers pZ = 1 := by
 have h : M4.f k1 = [vof y1 3] := by
  show (M3.trim k1 []).f k1 = _
  rw [Sm.trim_at, M3_trm]
 unfold Sm.vers
 rw [M4_ks]
 have e : ([k1].filter fun k => has pZ.x pZ.d k) = [k1] := by
  rw [List.filter_cons, if_pos (by decide +kernel)]; rfl
 rw [e]
 simp [h]
theorem M4_wf : M4.wf := Sm.trim_wf M3_wf k1 []
end D
end Go.Proofs.YtjlaffgbmcpldaaGreatDoor
namespace Go.Proofs.YtjlaffgbmcpldaaGreatDoor
open Go.RowKit
namespace Pn
def D.l0 : D.Ps := List.replicate 64 none
theorem tab_zero (base : Nat) (w : World) (hb : base ≤ w.heap.size) : Tab base (w.alloc (.cells #[.int .u64 0, .int .u64 0, .int .u64 0, .int .u64 0, .int .u64 0, .int .u64 0, .int .u64 0, .int .u64 0, .int .u64 0, .int .u64 0, .int .u64 0, .int .u64 0, .int .u64 0, .int .u64 0, .int .u64 0, .int .u64 0, .int .u64 0, .int .u64 0, .int .u64 0, .int .u64 0, .int .u64 0, .int .u64 0, .int .u64 0, .int .u64 0, .int .u64 0, .int .u64 0, .int .u64 0, .int .u64 0, .int .u64 0, .int .u64 0, .int .u64 0, .int .u64 0, .int .u64 0, .int .u64 0, .int .u64 0, .int .u64 0, .int .u64 0, .int .u64 0, .int .u64 0, .int .u64 0, .int .u64 0, .int .u64 0, .int .u64 0, .int .u64 0, .int .u64 0, .int .u64 0, .int .u64 0, .int .u64 0, .int .u64 0, .int .u64 0, .int .u64 0, .int .u64 0, .int .u64 0, .int .u64 0, .int .u64 0, .int .u64 0, .int .u64 0, .int .u64 0, .int .u64 0, .int .u64 0, .int .u64 0, .int .u64 0, .int .u64 0, .int .u64 0, .int .u64 0, .map none] 51)) w.heap.size none (List.replicate 64 none) := tab_new base w hb
end Pn
def tz : Array Value := #[.int .u64 0, .int .u64 0, .int .u64 0, .int .u64 0, .int .u64 0, .int .u64 0, .int .u64 0, .int .u64 0, .int .u64 0, .int .u64 0, .int .u64 0, .int .u64 0, .int .u64 0, .int .u64 0, .int .u64 0, .int .u64 0, .int .u64 0, .int .u64 0, .int .u64 0, .int .u64 0, .int .u64 0, .int .u64 0, .int .u64 0, .int .u64 0, .int .u64 0, .int .u64 0, .int .u64 0, .int .u64 0, .int .u64 0, .int .u64 0, .int .u64 0, .int .u64 0, .int .u64 0, .int .u64 0, .int .u64 0, .int .u64 0, .int .u64 0, .int .u64 0, .int .u64 0, .int .u64 0, .int .u64 0, .int .u64 0, .int .u64 0, .int .u64 0, .int .u64 0, .int .u64 0, .int .u64 0, .int .u64 0, .int .u64 0, .int .u64 0, .int .u64 0, .int .u64 0, .int .u64 0, .int .u64 0, .int .u64 0, .int .u64 0, .int .u64 0, .int .u64 0, .int .u64 0, .int .u64 0, .int .u64 0, .int .u64 0, .int .u64 0, .int .u64 0, .int .u64 0, .map none]
theorem tab_tz (base : Nat) (w : World) (hb : base ≤ w.heap.size) : Pn.Tab base (w.alloc (.cells tz 51)) w.heap.size none Pn.D.l0 := Pn.tab_zero base w hb
theorem run_z0 (w : World) : (zeroValue 51).run Tryz.prog w = .ok (.agg tz) w := by kernel_rfl
theorem tz_ex : ∃ z : Array Value, (∀ w, (zeroValue 51).run Tryz.prog w = .ok (.agg z) w) ∧ ∀ (base : Nat) (w : World), base ≤ w.heap.size → Pn.Tab base (w.alloc (.cells z 51)) w.heap.size none Pn.D.l0 := ⟨tz, run_z0, tab_tz⟩
theorem tms_l0 : Pn.Tms Pn.D.l0 [] := ⟨List.Pairwise.nil, fun x => by
 have : Pn.D.cn Pn.D.l0 x = 0 := by
  by_cases h : 0 < Pn.D.cn Pn.D.l0 x
  ·have := Pn.D.cn_pos.1 h
   simp [Pn.D.l0] at this
  ·omega
 simp [this]⟩
theorem sok_nil : ∀ ss : List Nat, ss.Perm [] → SOk ss := fun ss h => by rw [List.perm_nil.1 h]; exact SOk.small (by simp)
theorem run_bdr_k (w : World) : (bdrh #[(0, .int .u8 1)]).run Tryz.prog w = .ok (.agg (rSh.v D.r0)) w := by
 simp [bdrh, rv_eq, D.r0, Instr.build, go_sem]
theorem kn_pub15 (hR : KRt) {W : World} {s base i : Nat} (h : SM base W s (D.Mk i)) (hi : i ≤ 10) : Calls Tryz.prog 17 #[.pointer (some ⟨s, 0, none⟩), .slice (some ⟨W.heap.size, 0, none⟩) 1 1] (W.alloc (.cells (xS.v D.y1) 77)) fun e w' => (∃ v, e = .returned v) ∧ SM base w' s (D.Mk (i + 1)) ∧ Frm base W w' := by
 have hk := D.Mk_len i
 refine (spub_any (c := 1) hR (h.on (below_alloc_ W (.cells (xS.v D.y1) 77))) (by rw [D.Mk_last]; omega) (by omega) (xr_one W D.y1 _ rfl) D.yw1 (by decide)).mono ?_
 rw [D.Mk_pub i hi]
 rintro e w' ⟨h1, h2, h3⟩
 exact ⟨⟨_, h1⟩, h2, Frm.off (below_alloc_ _ _) h3⟩
attribute [local go_sem ↓] Go.wp_at_zero Go.wp_at_succ ld_k lv_k st_k eq_k ne_k bd_k ld_b lv_b st_b eq_b ne_b bd_25 ld_r lv_r st_rk eq_rk ne_rk bd_r ld_p lv_p st_px bd_p Nm.ld_a Nm.ld_n Nm.st_a Nm.st_n Nm.eq_a Nm.eq_n Nm.ne_a Nm.ne_n Nm.lv_a Nm.lv_n ld_a ld_n st_a st_n eq_a eq_n ne_a ne_n lv_a lv_n ld_l lv_l st_l bd_l bd_n bs_k ld_v lv_v st_v ne_v bd_v bs_v ld_w lv_w st_w ne_w bd_w bs_w ld_rh ld_d lv_rh lv_d st_r st_d ne_rh eq_rh ne_d bd_rh bd_d ld_x lv_x st_x bd_x bs_x ld_e lv_e st_e bd_e bs_e ne_e
attribute [local go_sem] run_ldk run_lvk run_stk run_eqk run_nek run_bdk_z run_ldb run_lvb run_stb run_eqb run_neb run_ldr run_lvr run_strk run_eqrk run_nerk run_bdr_z run_ldp run_lvp run_stpx Nm.run_ld_a Nm.run_ld_n Nm.run_st_n Nm.run_eq_a Nm.run_eq_n Nm.run_ne_a Nm.run_ne_n Nm.run_lv_a Nm.run_lv_n Nm.rd_new Nm.rd_old Nm.rd_drew Nm.rd_drewN run_ld_a run_ld_n run_sw_a run_sw_n run_eq_a run_eq_n run_ne_a run_ne_n run_lv_a run_lv_n st_z ne_z eq_z rd_new rd_old rd_drew rd_drewN Shp.rd_new Shp.rd_old Shp.rd_drew Shp.rd_drewN Shp.rd_set Shp.tn_new Shp.tn_old Shp.tn_drew Shp.tn_drewN tn_new tn_old tn_drew tn_drewN rd_set setRow_alloc run_stn3 run_stt15 run_lvl run_ldl run_stl run_bdl run_bdn run_bdn0 run_bsk Shp.rd_extk cell_ext run_ldv run_lvv run_stv run_nev run_bdv_z run_bdv_d run_bdv_r run_bsv1 run_bsv0 run_ldw run_lvw run_stw run_new run_bdw_3 run_bsw1 run_bsw0 run_ldrh run_ldd run_lvrh run_lvd run_str run_std run_nerh run_eqrh run_ned run_bdr0 run_bdd0 run_bdr1 run_bdd1 run_bdd9 run_ldx run_lvx run_stx run_lde run_lve run_bde run_bse1 run_bdv_3 Shp.rd_extk cell_ext
attribute [local go_sem] run_bdp_z run_bsx1 run_bdk_one run_bdx_r run_bdr_k
set_option maxHeartbeats 16000000 in
theorem known15 (hR : KRt) (w : World) : Calls Tryz.prog 34 #[] w fun e w' => e = .returned (.bool true) ∧ Below w.heap.size w w' := by
 have CN := Lib.hid (snew_any w.heap.size w (Nat.le_refl _))
 have eY : (⟨D.k1, false, D.r0⟩ : D.Wt) = D.y1 := rfl
 have HR := Lib.hid hR
 obtain ⟨tz, hbdT, htz⟩ := tz_ex
 have HTZ := Lib.hid htz
 clear htz
 go_enter Tryz.func34, Tryz.ntmps34
 go_wp2_with (go_at_call 13; (with_reducible refine CN.out.mono ?_); rintro e w1 ⟨rfl, hS1, b1⟩; have HS1 := Lib.hid hS1; have B1 := Lib.hid b1; clear hS1 b1)
 have b2 := below_alloc_ w1 (.cells (kS.v D.k1) 39)
 have K2 := Blk.new w1 39 (kS.v D.k1)
 obtain ⟨s, hs⟩ : ∃ s, w.heap.size + 1 = s := ⟨_, rfl⟩
 obtain ⟨base, hb⟩ : ∃ base, w.heap.size = base := ⟨_, rfl⟩
 obtain ⟨gk, hgk⟩ : ∃ gk, w1.heap.size = gk := ⟨_, rfl⟩
 obtain ⟨w2, hw2⟩ : ∃ w2, w1.alloc (.cells (kS.v D.k1) 39) = w2 := ⟨_, rfl⟩
 have HS2 := HS1.out.on b2
 have B2 := Lib.hid (below_up B1.out B1.out.size b2)
 rw [hs] at HS2
 rw [hb] at HS2
 rw [hgk] at K2
 rw [hw2] at K2 HS2 B2
 try rw [hs]
 try rw [hgk]
 try rw [hw2]
 have HK2 := Lib.hid K2
 have HS2 := Lib.hid HS2
 have BS : Hid (base ≤ w2.heap.size ∧ w.heap.size = base) := Lib.hid ⟨by rw [← hb]; exact B2.out.size, hb⟩
 have BG : Hid (base ≤ gk) := Lib.hid (by rw [← hb, ← hgk]; exact B1.out.size)
 clear hs hgk hw2 hb K2 b2 HS1 B1 CN
 go_loopw [3] (fun x wx => ∃ i : Nat, i ≤ 3 ∧ x = .int .i64 i ∧ Hid (SM base wx s (D.Mk i) ∧ Blk wx gk 39 (kS.v D.k1) ∧ Below base w2 wx)) (fun x _ => 3 - (intOf x).toNat)
 case atStart => exact ⟨0, by omega, rfl, Lib.hid ⟨HS2.out, HK2.out, (Below.refl _ _)⟩⟩
 case round =>
  obtain ⟨i, hi, rfl, HI⟩ := hrel
  by_cases h3 : i < 3
  ·have kb := Shp.rd_blk HI.out.2.1
   have CP := Lib.hid (kn_pub15 HR.out HI.out.1 (by omega))
   go_wp2_with (go_at_call 17; (refine CP.out.mono ?_); rintro e w5 ⟨⟨v, rfl⟩, hS5, f5⟩)
   go_roundw
   case rel => exact ⟨i + 1, by omega, by go_num, Lib.hid ⟨hS5, Frm.blk f5 HI.out.2.1 (by decide), HI.out.2.2.trans (f5.below (by have := HI.out.2.2.size; have := BS.out.1; omega))⟩⟩
   case measure => simp [intOf]; omega
  ·obtain rfl : i = 3 := by omega
   have HM : Hid (SM base wr s D.M3) := Lib.hid HI.out.1
   have bt := below_alloc_ wr (.cells tz 51)
   have hT := HTZ.out base wr (by have := HI.out.2.2.size; have := BS.out.1; omega)
   have CW := wnew_any s wr.heap.size (wr.alloc (.cells tz 51))
   obtain ⟨tg, htg⟩ : ∃ tg, wr.heap.size = tg := ⟨_, rfl⟩
   obtain ⟨w3, hw3⟩ : ∃ w3, wr.alloc (.cells tz 51) = w3 := ⟨_, rfl⟩
   rw [hw3, htg] at CW hT
   rw [hw3] at bt
   have HT := Lib.hid hT
   have HM3 := Lib.hid (HM.out.on bt)
   have HK3 := Lib.hid (HI.out.2.1.on bt)
   have HB3 := Lib.hid (HI.out.2.2.trans (below_up (Below.refl _ _) (Nat.le_refl _) bt |>.mono (by have := HI.out.2.2.size; have := BS.out.1; omega)))
   have CW := Lib.hid CW
   clear hT bt HM HI h3
   have CS1 : Hid (∀ W g, Wb W g ⟨some ⟨s, 0, none⟩, some ⟨tg, 0, none⟩, D.zK, 0, 0⟩ → Below w3.heap.size w3 W → Calls Tryz.prog 25 #[.pointer (some ⟨g, 0, none⟩)] W fun e w' => e = .returned (.tuple #[.agg (kS.v D.k1), .int .i64 2, .bool true]) ∧ Wb w' g ⟨some ⟨s, 0, none⟩, some ⟨tg, 0, none⟩, D.k1, 0, 2⟩ ∧ SM base w' s D.M4 ∧ Fsw base W.heap.size g W w') := Lib.hid fun W g hW hB => by
    have := wStep_some (ps := []) hW rfl rfl ((HM3.out.on hB).smt) (HT.out.on hB) (by decide) tms_l0 (by simp) sok_nil D.M3_nxt (show (0 : Int) ≤ 0 by omega) (show (0 : Int) ≤ 1000000000 by omega) (by have := HB3.out.size; have := BS.out.1; have := hB.size; omega)
    rw [D.M3_went] at this
    exact this.mono fun e w' ⟨h1, h2, h3, h4⟩ => ⟨h1, h2, h3.sm, h4⟩
   have CS2 : Hid (∀ W g, Wb W g ⟨some ⟨s, 0, none⟩, some ⟨tg, 0, none⟩, D.k1, 0, 2⟩ → SM base W s D.M4 → Calls Tryz.prog 25 #[.pointer (some ⟨g, 0, none⟩)] W fun e w' => e = .returned (.tuple #[.agg (kS.v D.zK), .int .i64 0, .bool false]) ∧ Wb w' g ⟨some ⟨s, 0, none⟩, some ⟨tg, 0, none⟩, D.zK, 1, 2⟩ ∧ SM base w' s D.M4 ∧ Only (fun i => i = g) W w') := Lib.hid fun W g hW hS => by
    refine (wStep_none hW (SO.of hS) D.M4_nxt (show (0 : Int) ≤ 0 by omega) (show (0 : Int) ≤ 1000000000 by omega)).mono fun e w' ⟨h1, h2, h3⟩ => ⟨h1, h2, hS.away h3 fun i cs T f _ hi hT e => ?_, h3⟩
    subst e
    have := hi.symm.trans hW.blk.out
    injection this with this
    injection this with _ e
    subst e
    exact absurd hT (by decide)
   have CV : Hid (∀ W, SM base W s D.M4 → Calls Tryz.prog 38 #[.pointer (some ⟨s, 0, none⟩), .agg (pS.v D.pZ)] W fun e w' => e = .returned (.int .i64 1) ∧ Below W.heap.size W w') := Lib.hid fun W hS => by
    have := svers_any (SO.of hS) D.M4_wf (by decide) (by rw [D.M4_ks]; simp) D.pZ
    rw [D.M4_vers] at this
    exact this
   clear HM3 HTZ HS2 HK2
   go_wp2_with fail
   go_at_call 14
   refine CW.out.mono ?_
   rintro e w4 ⟨rfl, hW4, b4⟩
   have C4 := Lib.hid (CS1.out _ _ hW4 b4)
   have K4 := Lib.hid (HK3.out.on b4)
   have L4 := hW4.lt
   have BB4 := Lib.hid b4
   have W4 := Lib.hid hW4
   clear hW4 b4
   go_wp2_with fail
   go_at_call 25
   refine C4.out.mono ?_
   rintro e w5 ⟨rfl, hW5, hS5, f5⟩
   have b6 := below_alloc_ w5 (.cells (kS.v D.k1) 39)
   have K5 := f5.blk K4.out (by decide) (fun e => ty_ne K4.out W4.out.blk.out (by decide) e)
   have C5 := CS2.out _ _ (hW5.on b6) (hS5.on b6)
   have K6 := K5.on b6
   have N6 := Blk.new w5 39 (kS.v D.k1)
   have F6 := f5.on b6
   have W6 := hW5.on b6
   obtain ⟨w6, hw6⟩ : ∃ w6, w5.alloc (.cells (kS.v D.k1) 39) = w6 := ⟨_, rfl⟩
   obtain ⟨gx, hgx⟩ : ∃ gx, w5.heap.size = gx := ⟨_, rfl⟩
   rw [hw6] at C5 K6 N6 F6 W6
   rw [hgx] at N6
   have C5 := Lib.hid C5
   have K6 := Lib.hid K6
   have N6 := Lib.hid N6
   have F6 := Lib.hid F6
   have W6 := Lib.hid W6
   clear hW5 hS5 f5 b6 K5 C4
   go_wp2_with fail
   try rw [hw6]
   try rw [hgx]
   clear hw6 hgx
   go_at_call 25
   refine C5.out.mono ?_
   rintro e w7 ⟨rfl, hW7, hS7, o7⟩
   have b8 := below_alloc_ w7 (.cells (kS.v D.zK) 39)
   have K8 := (K6.out.only o7 (fun e => ty_ne K6.out W6.out.blk.out (by decide) e)).on b8
   have N8 := (N6.out.only o7 (fun e => ty_ne N6.out W6.out.blk.out (by decide) e)).on b8
   have Z8 := Blk.new w7 39 (kS.v D.zK)
   have W8 := hW7.on b8
   have S8 := hS7.on b8
   have F8 := ((F6.out.trans (Fsw.own o7))).on b8
   obtain ⟨w8, hw8⟩ : ∃ w8, w7.alloc (.cells (kS.v D.zK) 39) = w8 := ⟨_, rfl⟩
   obtain ⟨gy, hgy⟩ : ∃ gy, w7.heap.size = gy := ⟨_, rfl⟩
   rw [hw8] at K8 N8 Z8 W8 S8 F8
   rw [hgy] at Z8
   have c1_ := Shp.rd_blk K8
   have c2_ := Shp.rd_blk N8
   have c3_ := Shp.rd_blk Z8
   have CR := Lib.hid (rounds_any W8)
   have CV8 := Lib.hid (CV.out _ S8)
   have F8 := Lib.hid F8
   clear K8 N8 Z8 W8 S8 hW7 hS7 o7 b8 C5
   have kk : kS.sm D.k1 D.k1 = true := by simp [Shp.sm]
   have zz : kS.sm D.zK D.zK = true := by simp [Shp.sm]
   go_wp2_with (first
    | (go_at_call 31; (with_reducible refine CR.out.mono ?_); rintro e w9 ⟨rfl, rfl⟩)
    | (go_at_call 38; (with_reducible refine CV8.out.mono ?_); rintro e w10 ⟨rfl, b10⟩))
   go_ret
   have z3 := HB3.out.size
   have z4 := BB4.out.size
   have z8 := F8.out.size
   have hbs := BS.out
   refine ⟨rfl, ?_⟩
   rw [hbs.2]
   have B2' := B2.out
   rw [hbs.2] at B2'
   exact (((B2'.trans HB3.out).trans (BB4.out.mono (by omega))).trans (F8.out.below (B := base) (by omega) fun i hi => by
    rcases hi with rfl | ⟨⟨h, _⟩, _⟩
    ·omega
    ·exact h)).trans (b10.mono (by omega))
end Go.Proofs.YtjlaffgbmcpldaaGreatDoor
namespace Go.Proofs.YtjlaffgbmcpldaaGreatDoor
open Go.RowKit
attribute [local go_sem ↓] Go.wp_at_zero Go.wp_at_succ ld_k lv_k st_k eq_k ne_k bd_k ld_b lv_b st_b eq_b ne_b bd_25 ld_r lv_r st_rk eq_rk ne_rk bd_r ld_p lv_p st_px bd_p Nm.ld_a Nm.ld_n Nm.st_a Nm.st_n Nm.eq_a Nm.eq_n Nm.ne_a Nm.ne_n Nm.lv_a Nm.lv_n ld_a ld_n st_a st_n eq_a eq_n ne_a ne_n lv_a lv_n ld_l lv_l st_l bd_l bd_n bs_k ld_v lv_v st_v ne_v bd_v bs_v ld_w lv_w st_w ne_w bd_w bs_w ld_rh ld_d lv_rh lv_d st_r st_d ne_rh eq_rh ne_d bd_rh bd_d ld_x lv_x st_x bd_x bs_x ld_e lv_e st_e bd_e bs_e ne_e
attribute [local go_sem] run_ldk run_lvk run_stk run_eqk run_nek run_bdk_z run_ldb run_lvb run_stb run_eqb run_neb run_ldr run_lvr run_strk run_eqrk run_nerk run_bdr_z run_ldp run_lvp run_stpx Nm.run_ld_a Nm.run_ld_n Nm.run_st_n Nm.run_eq_a Nm.run_eq_n Nm.run_ne_a Nm.run_ne_n Nm.run_lv_a Nm.run_lv_n Nm.rd_new Nm.rd_old Nm.rd_drew Nm.rd_drewN run_ld_a run_ld_n run_sw_a run_sw_n run_eq_a run_eq_n run_ne_a run_ne_n run_lv_a run_lv_n st_z ne_z eq_z rd_new rd_old rd_drew rd_drewN Shp.rd_new Shp.rd_old Shp.rd_drew Shp.rd_drewN Shp.rd_set Shp.tn_new Shp.tn_old Shp.tn_drew Shp.tn_drewN tn_new tn_old tn_drew tn_drewN rd_set setRow_alloc run_stn3 run_stt15 run_lvl run_ldl run_stl run_bdl run_bdn run_bdn0 run_bsk Shp.rd_extk cell_ext run_ldv run_lvv run_stv run_nev run_bdv_z run_bdv_d run_bdv_r run_bsv1 run_bsv0 run_ldw run_lvw run_stw run_new run_bdw_3 run_bsw1 run_bsw0 run_ldrh run_ldd run_lvrh run_lvd run_str run_std run_nerh run_eqrh run_ned run_bdr0 run_bdd0 run_bdr1 run_bdd1 run_bdd9 run_ldx run_lvx run_stx run_lde run_lve run_bde run_bse1 run_bdv_3 Shp.rd_extk cell_ext
theorem zero_nxt (k : D.Ky) : D.Sm.zero.nxt k = none := rfl
theorem idle_step {g : Nat} {w : World} (hW : Wb w g zW) : Calls Tryz.prog 62 #[.pointer (some ⟨g, 0, none⟩)] w fun e w' => e = .returned (.tuple #[.agg (kS.v D.zK), .int .i64 0, .bool false]) ∧ Wb w' g { zW with rn := 1 } ∧ Only (fun i => i = g) w w' :=
 (wstep_none (base := w.heap.size) (M := .zero) hW (SO.nil _ w (Nat.le_refl _)) (zero_nxt _) (show (0 : Int) ≤ 0 by omega) (show (0 : Int) ≤ 1000000000 by omega))
set_option maxHeartbeats 1000000 in
theorem nil_step (w : World) : Calls Tryz.prog 25 #[.pointer none] w fun e w' => e = .returned (.tuple #[.agg (kS.v D.zK), .int .i64 0, .bool false]) ∧ Below w.heap.size w w' := by
 have b0 := below_alloc_ w (.cells z25 39)
 have B0 := Blk.new w 39 z25
 obtain ⟨w0, hw0⟩ : ∃ w0, w.alloc (.cells z25 39) = w0 := ⟨_, rfl⟩
 rw [hw0] at b0 B0
 unfold z25 at hw0
 have HB := Lib.hid B0
 have H0 := Lib.hid b0
 have CO := Lib.hid (orIdle_nil w0)
 clear B0 b0
 go_enter Tryz.func25, Tryz.ntmps25
 go_wp2_with fail
 try rw [hw0]
 clear hw0
 go_wp2_with (first
  | (go_at_call 61; (with_reducible refine CO.out.mono ?_); rintro e w1 ⟨rfl, hW1, b1⟩; have CS := Lib.hid (idle_step hW1); have HB1 := Lib.hid (HB.out.on b1); have H1 := Lib.hid b1; have HLT := Lib.hid HB.out.lt; clear hW1 b1)
  | (go_at_call 62; (with_reducible refine CS.out.mono ?_); rintro e w2 ⟨rfl, hW2, o2⟩; have t2 : Shp.tn 25 w2 w.heap.size = true := Shp.tn_of (HB1.out.only o2 (fun e => by have := HLT.out; omega)) rfl; have HO := Lib.hid o2; clear hW2 o2))
 have hset := Shp.rd_set (S := kS) w2 w.heap.size D.zK t2
 refine bodyPost_ret (v := .tuple #[.agg (kS.v D.zK), .int .i64 0, .bool false]) (by rw [results_ctt rfl]; simp [asAddr, Result.andThen, lvk_of hset]) rfl ⟨rfl, ?_⟩
 have h0 := H0.out.size
 refine bel_setRow ((H0.out.trans (H1.out.mono (by omega))).trans (HO.out.below (B := w.heap.size) (by have := H1.out.size; omega) fun i hi => by have : i = w0.heap.size := hi; omega)) (Nat.le_refl _) _
set_option maxHeartbeats 2000000 in
theorem nil_steps (n : Int) (w : World) : Calls Tryz.prog 27 #[.pointer none, .int .i64 n] w fun e w' => e = .returned (.int .i64 0) ∧ Below w.heap.size w w' := by
 have CS : Hid (∀ W, Calls Tryz.prog 25 #[.pointer none] W fun e w' => e = .returned (.tuple #[.agg (kS.v D.zK), .int .i64 0, .bool false]) ∧ Below W.heap.size W w') := Lib.hid fun W => nil_step W
 obtain ⟨m, hm⟩ : ∃ m : Int, min n 10000 = m := ⟨_, rfl⟩
 have hm2 : m ≤ 10000 := by omega
 go_enter Tryz.func27, Tryz.ntmps27
 go_wp2_with fail
 go_loopw [5, 11] (fun x y wx => x = .int .i64 0 ∧ ∃ i : Nat, y = .int .i64 i ∧ (i : Int) ≤ 10001 ∧ Hid (Below w.heap.size w wx)) (fun _ y _ => 10002 - (intOf y).toNat)
 case atStart => exact ⟨rfl, 0, rfl, by omega, Lib.hid (Below.refl _ _)⟩
 case round =>
  obtain ⟨rfl, i, rfl, hi, HB⟩ := hrel
  by_cases hlt : (i : Int) < m
  ·go_wp2_with (go_at_call 25; (with_reducible refine (CS.out _).mono ?_); rintro e w2 ⟨rfl, b2⟩; have HB2 := Lib.hid b2; clear b2)
   go_roundw
   case rel => exact ⟨rfl, i + 1, by go_num, by omega, Lib.hid (below_up HB.out HB.out.size (below_up HB2.out HB2.out.size (below_alloc_ _ _)))⟩
   case measure => simp [intOf]; omega
  ·go_wp2
   go_ret
   exact ⟨rfl, HB.out⟩
theorem nil_stands (w : World) : Calls Tryz.prog 30 #[.pointer none] w fun e w' => e = .returned (.agg (kS.v D.zK)) ∧ Below w.heap.size w w' := by
 have b0 := below_alloc_ w (.cells z25 39)
 have B0 := Blk.new w 39 z25
 obtain ⟨w0, hw0⟩ : ∃ w0, w.alloc (.cells z25 39) = w0 := ⟨_, rfl⟩
 rw [hw0] at b0 B0
 unfold z25 at hw0
 have HB := Lib.hid B0
 have H0 := Lib.hid b0
 have CO := Lib.hid (orIdle_nil w0)
 clear B0 b0
 go_enter Tryz.func30, Tryz.ntmps30
 go_wp2_with fail
 try rw [hw0]
 clear hw0
 go_wp2_with (go_at_call 61; (with_reducible refine CO.out.mono ?_); rintro e w1 ⟨rfl, hW1, b1⟩; have f1 : kS.rd w1 ⟨w0.heap.size, 2, none⟩ = some D.zK := hW1.k_; have t1 : Shp.tn 25 w1 w.heap.size = true := Shp.tn_of (HB.out.on b1) rfl; have H1 := Lib.hid b1; clear hW1 b1)
 have hset := Shp.rd_set (S := kS) w1 w.heap.size D.zK t1
 have h0 := H0.out.size
 refine bodyPost_ret (v := .agg (kS.v D.zK)) (by rw [results_cell1 rfl]; simp [asAddr, Result.andThen, lvk_of hset]) rfl ⟨rfl, bel_setRow (H0.out.trans (H1.out.mono (by omega))) (Nat.le_refl _) _⟩
theorem nil_rounds (w : World) : Calls Tryz.prog 31 #[.pointer none] w fun e w' => e = .returned (.int .i64 0) ∧ Below w.heap.size w w' := by
 have CO := Lib.hid (orIdle_nil w)
 go_enter Tryz.func31, Tryz.ntmps31
 go_wp2_with (go_at_call 61; (with_reducible refine CO.out.mono ?_); rintro e w1 ⟨rfl, hW1, b1⟩; have c1 : w1.cell? ⟨w.heap.size, 27, none⟩ = some (.int .i64 0) := hW1.r_; have H1 := Lib.hid b1; clear hW1 b1)
 go_ret
 exact ⟨rfl, H1.out⟩
theorem nil_gone (w : World) : Calls Tryz.prog 32 #[.pointer none] w fun e w' => e = .returned (.int .i64 0) ∧ Below w.heap.size w w' := by
 have CO := Lib.hid (orIdle_nil w)
 go_enter Tryz.func32, Tryz.ntmps32
 go_wp2_with (go_at_call 61; (with_reducible refine CO.out.mono ?_); rintro e w1 ⟨rfl, hW1, b1⟩; have c1 : w1.cell? ⟨w.heap.size, 28, none⟩ = some (.int .i64 0) := hW1.g_; have H1 := Lib.hid b1; clear hW1 b1)
 go_ret
 exact ⟨rfl, H1.out⟩
end Go.Proofs.YtjlaffgbmcpldaaGreatDoor
