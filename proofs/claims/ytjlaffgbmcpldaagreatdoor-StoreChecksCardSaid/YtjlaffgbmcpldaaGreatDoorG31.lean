/-
  
-/
import Derived.Test.YtjlaffgbmcpldaaGreatDoorG30
import Derived.Test.YtjlaffgbmcpldaaGreatDoorG20
import Derived.Test.YtjlaffgbmcpldaaGreatDoorG15
set_option linter.unusedVariables false
set_option linter.unusedSimpArgs false
set_option maxRecDepth 100000
namespace Go.Proofs.YtjlaffgbmcpldaaGreatDoor
open Go.RowKit
def D.cutW (x : D.Wt) : D.Wt := ⟨x.k, x.d, { x.r with t := x.r.t.extract 0 (min x.r.t.size 80) }⟩
theorem D.cutW_wf {x : D.Wt} (h : x.r.wf) : (D.cutW x).r.wf := ⟨h.k, h.s, h.u, h.p, h.m, h.v, h.a⟩
def D.cutL (l : List D.Wt) : List D.Wt := (l.take 20).map D.cutW
theorem xv_34 (x : D.Wt) : (xS.v x)[34]? = some (.string x.r.t) := by
 have hl := x.k.len
 show (xcells x).toArray[34]? = _
 rw [List.getElem?_toArray, xcells, List.getElem?_append_right (by rw [bys_len, hl]; omega), bys_len, hl]
 rfl
theorem xv_set34 (x : D.Wt) (t : ByteArray) : (xS.v x).setIfInBounds 34 (.string t) = xS.v ⟨x.k, x.d, { x.r with t := t }⟩ := by
 have hl := x.k.len
 show (xcells x).toArray.setIfInBounds 34 (.string t) = (xcells _).toArray
 rw [List.setIfInBounds_toArray]
 congr 1
 simp only [xcells]
 rw [List.set_append_right _ _ (by rw [bys_len, hl]; omega), bys_len, hl]
 simp [rcellsh]
theorem bsx_list (w : World) (d : Bool) (r : D.Rc) : ∀ l : List Value, l.length = 25 → (bsx 1 #[(0, .agg (l ++ .bool d :: rcellsh r).toArray)]).run Tryz.prog w = .ok (.slice (some ⟨w.heap.size, 0, none⟩) 1 1) (w.alloc (.cells (l ++ .bool d :: rcellsh r).toArray 77))
 | [a0, a1, a2, a3, a4, a5, a6, a7, a8, a9, a10, a11, a12, a13, a14, a15, a16, a17, a18, a19, a20, a21, a22, a23, a24], _ => by
  simp [bsx, rcellsh, Instr.buildSlice, go_sem]
theorem run_bsx1 (w : World) (x : D.Wt) : (bsx 1 #[(0, .agg (xS.v x))]).run Tryz.prog w = .ok (.slice (some ⟨w.heap.size, 0, none⟩) 1 1) (w.alloc (.cells (xS.v x) 77)) := bsx_list w x.d x.r (bys x.k.l) (by rw [bys_len, x.k.len])
def D.zWt : D.Wt := ⟨D.zK, false, D.zRc⟩
theorem wrt_under : Tryz.prog.underlying 22 = some (.slice 77) := by kernel_rfl
theorem wrt_info : (Tryz.prog.info? 77).map (fun i => (i.zero, i.size, i.bytes)) = some (some (.agg (xS.v D.zWt)), 35, 72) := by kernel_rfl
attribute [local go_sem ↓] Go.wp_at_zero Go.wp_at_succ ld_k lv_k st_k eq_k ne_k bd_k ld_b lv_b st_b eq_b ne_b bd_25 ld_r lv_r st_rk eq_rk ne_rk bd_r ld_p lv_p st_px bd_p Nm.ld_a Nm.ld_n Nm.st_a Nm.st_n Nm.eq_a Nm.eq_n Nm.ne_a Nm.ne_n Nm.lv_a Nm.lv_n ld_a ld_n st_a st_n eq_a eq_n ne_a ne_n lv_a lv_n ld_l lv_l st_l bd_l bd_n bs_k ld_v lv_v st_v ne_v bd_v bs_v ld_rh ld_d lv_rh lv_d st_r st_d ne_rh eq_rh ne_d bd_rh bd_d ld_x lv_x st_x bd_x bs_x ld_e lv_e st_e bd_e bs_e ne_e
attribute [local go_sem] run_ldk run_lvk run_stk run_eqk run_nek run_bdk_z run_ldb run_lvb run_stb run_eqb run_neb run_ldr run_lvr run_strk run_eqrk run_nerk run_bdr_z run_ldp run_lvp run_stpx Nm.run_ld_a Nm.run_ld_n Nm.run_st_n Nm.run_eq_a Nm.run_eq_n Nm.run_ne_a Nm.run_ne_n Nm.run_lv_a Nm.run_lv_n Nm.rd_new Nm.rd_old Nm.rd_drew Nm.rd_drewN run_ld_a run_ld_n run_sw_a run_sw_n run_eq_a run_eq_n run_ne_a run_ne_n run_lv_a run_lv_n st_z ne_z eq_z rd_new rd_old rd_drew rd_drewN Shp.rd_new Shp.rd_old Shp.rd_drew Shp.rd_drewN Shp.rd_set Shp.tn_new Shp.tn_old Shp.tn_drew Shp.tn_drewN tn_new tn_old tn_drew tn_drewN rd_set setRow_alloc run_stn3 run_stt15 run_lvl run_ldl run_stl run_bdl run_bdn run_bdn0 run_bsk Shp.rd_extk cell_ext run_ldv run_lvv run_stv run_nev run_bdv_z run_bdv_d run_bdv_r run_bsv1 run_bsv0 run_ldrh run_ldd run_lvrh run_lvd run_str run_std run_nerh run_eqrh run_ned run_bdr0 run_bdd0 run_bdr1 run_bdd1 run_bdd9 run_ldx run_lvx run_stx run_lde run_lve run_bde run_bse1 run_bdv_3 Shp.rd_extk cell_ext
attribute [local go_sem] xv_34 xv_set34 run_bsx1
set_option maxHeartbeats 8000000 in
theorem scut_any {w : World} {A : Option Addr} {n c : Nat} {l : List D.Wt} (hr : Shp.Row xS w A n l) (hm : ∀ x ∈ l, x.r.t.size ≤ maxLen) (hn : n ≤ maxLen) : Calls Tryz.prog 8 #[.slice A n c] w fun e w' => ∃ B m d, e = .returned (.slice B m d) ∧ Ow 77 35 w.heap.size w' B m d (xS.rcs (D.cutL l)) ∧ m = (D.cutL l).length ∧ Below w.heap.size w w' := by
 have hlen : Kept (l.length = n) := ⟨hr.len⟩
 have hn63 : n ≤ 9223372036854775807 := by simp only [maxLen] at hn; omega
 have HR := Lib.hid hr
 have HM := Lib.hid (fun x (hx : x ∈ l) => show x.r.t.size ≤ 9223372036854775807 by have := hm x hx; simp only [maxLen] at this; omega)
 clear hr hm hn
 go_enter Tryz.func8, Tryz.ntmps8
 go_wp2_with fail
 go_loopw [3, 4] (fun s i wr => ∃ (j : Nat) (B : Option Addr) (d : Nat), j ≤ n ∧ j ≤ 20 ∧ i = .int .i64 j ∧ s = .slice B j d ∧ Hid (Ow 77 35 w.heap.size wr B j d (xS.rcs ((l.take j).map D.cutW))) ∧ Hid (Below w.heap.size w wr)) (fun _ i _ => n - (intOf i).toNat)
 case atStart => exact ⟨0, none, 0, Nat.zero_le _, by omega, rfl, rfl, Lib.hid (Ow.nil _ 35 (Nat.le_refl _)), Lib.hid (Below.refl _ _)⟩
 case round =>
  obtain ⟨j, B, d, hj, hj20, rfl, rfl, HO, HB⟩ := hrel
  have hfin : Hid (¬ j < n ∨ ¬ j < 20 → (l.take j).map D.cutW = D.cutL l ∧ Kept (j = (D.cutL l).length)) := Lib.hid fun h => by
   have := hlen.out
   have e : l.take j = l.take 20 := by
    by_cases h20 : j < 20
    ·have : l.length ≤ j := by omega
     rw [List.take_of_length_le this, List.take_of_length_le (by omega)]
    ·obtain rfl : j = 20 := by omega
     rfl
   refine ⟨by rw [e]; rfl, ⟨?_⟩⟩
   simp only [D.cutL, List.length_map, List.length_take]
   omega
  by_cases hlt : j < n
  ·have j1 : (j : Int) < (n : Int) := by omega
   have j0 : (0 : Int) ≤ (j : Int) := by omega
   by_cases h20 : j < 20
   ·have j2 : (j : Int) < 20 := by omega
    obtain ⟨x, hx⟩ : ∃ x, l[j]? = some x := ⟨_, List.getElem?_eq_getElem (by rw [hlen.out]; exact hlt)⟩
    obtain ⟨ad, hAe, hal, hrd⟩ := (HR.out.on HB.out).rd hx
    have hrd : xS.rd wr (ad.add (j * 35)) = some x := hrd
    subst hAe
    have hxm := HM.out x (List.mem_of_getElem? hx)
    have hT := Lib.hid (show (l.take (j + 1)).map D.cutW = (l.take j).map D.cutW ++ [D.cutW x] by rw [stk_next hx]; simp)
    have hy0 : D.cutW x = ⟨x.k, x.d, { x.r with t := x.r.t.extract 0 (min (x.r.t.size : Int) 80).toNat }⟩ := by
     have e : (min (x.r.t.size : Int) 80).toNat = min x.r.t.size 80 := by omega
     rw [e]; rfl
    obtain ⟨y, hy⟩ : ∃ y : D.Wt, ⟨x.k, x.d, { x.r with t := x.r.t.extract 0 (min (x.r.t.size : Int) 80).toNat }⟩ = y := ⟨_, rfl⟩
    rw [hy0, hy] at hT
    have hl0 : (0 : Int) ≤ (x.r.t.size : Int) := by omega
    clear hx hy0
    go_wp2_with (at_builtin; refine gapp _ wrt_under wrt_info rfl (by decide) (by decide) rfl (.tmp 31) (.tmp 33) rfl rfl ((HO.out.alloc (.cells (xS.v y) 77)).alloc (.cells (xS.v y) 77)) rfl (rw_shp xS _ y 77 _ (by simp)) (xS.one y) (by omega) ?_; intro A6 c6 w2 ho2 hg2 hat2)
    have hb2 : Below w.heap.size w w2 := ((HB.out.alloc HB.out.size _).alloc (by simp; have := HB.out.size; omega) _).grown hg2 (by simp; have := HB.out.size; omega) fun k hk => (HO.out.lt k hk).1
    go_roundw
    case rel => exact ⟨j + 1, A6, c6, by omega, by omega, by go_num, rfl, Lib.hid (by rw [hT.out, rcs_snoc]; exact ho2), Lib.hid hb2⟩
    case measure => simp [intOf]; omega
   ·have j2 : ¬ ((j : Int) < 20) := by omega
    obtain ⟨h1, h2⟩ := hfin.out (.inr h20)
    rw [h1] at HO
    go_wp2
    go_ret
    exact ⟨B, j, d, rfl, HO.out, h2.out, HB.out⟩
  ·have j1 : ¬ ((j : Int) < (n : Int)) := by omega
   obtain ⟨h1, h2⟩ := hfin.out (.inl hlt)
   rw [h1] at HO
   go_wp2
   go_ret
   exact ⟨B, j, d, rfl, HO.out, h2.out, HB.out⟩
end Go.Proofs.YtjlaffgbmcpldaaGreatDoor
set_option linter.unusedVariables false
set_option linter.unusedSimpArgs false
set_option maxRecDepth 100000
namespace Go.Proofs.YtjlaffgbmcpldaaGreatDoor
open Go.RowKit
attribute [local go_sem ↓] Go.wp_at_zero Go.wp_at_succ ld_d st_d bd_d
attribute [local go_sem] run_ldd run_std run_bdd9 run_bdd0 run_bdd1 Shp.rd_new Shp.rd_old Shp.tn_new Shp.tn_old setRow_alloc setRow_alloc2

namespace D
def lk (c : Nat) : Int := if c = 114 ∨ c = 97 then 3 else if c = 116 then 4 else 0
def stp (l : List Nat) (S : Rf) (c : Nat) : Rf :=
 match c with
 | 117 => ⟨{ S.r with u := zx l S.z 0 0 }, zn l S.z 0 0, S.odd⟩
 | 109 => ⟨{ S.r with m := zx l S.z 0 0 }, zn l S.z 0 0, S.odd⟩
 | 112 => ⟨{ S.r with p := zx l S.z 0 0 }, zn l S.z 0 0, S.odd⟩
 | 115 => ⟨{ S.r with s := zx l S.z 0 0 }, zn l S.z 0 0, S.odd⟩
 | 103 => ⟨{ S.r with g := decide (zx l S.z 0 0 = 1) }, zn l S.z 0 0, decide (1 < zx l S.z 0 0)⟩
 | 114 => ⟨{ S.r with v := zx l S.z 3 mxR }, zn l S.z 3 mxR, S.odd⟩
 | 97 => ⟨{ S.r with a := zx l S.z 3 mxA }, zn l S.z 3 mxA, S.odd⟩
 | _ => ⟨{ S.r with t := sb (zs l S.z 4 60) }, zn l S.z 4 60, S.odd⟩
end D
set_option maxHeartbeats 1000000 in
theorem of_anyh (r : D.Rc) (w : World) (hr : r.wf) :
  Calls Tryz.prog 48 #[.agg (rSh.v r)] w fun en w' => en = .returned (.agg (dS.v r)) ∧ Below w.heap.size w w' := by
 have b1 := hr.k
 have b2 := hr.s
 have b3 := hr.u
 have b4 := hr.p
 have b5 := hr.m
 have b6 := hr.v
 have P0 := Lib.hid ((RBh.new w w.heap.size r rfl).on (below_alloc _ (.cells #[.int .i64 0, .int .i64 0, .int .i64 0, .int .i64 0, .int .i64 0, .bool false, .int .u64 0, .int .u64 0, .string ⟨#[]⟩] 69)))
 obtain ⟨c0, c1, c2, c3, c4, c5, c6, c7, c8⟩ := rf_of P0.out.rd
 go_enter Tryz.func48, Tryz.ntmps48
 go_wp2_with fail
 exact bodyPost_ret (v := .agg (dS.v r)) (by rw [results_cell1 rfl]; simp [asAddr, Result.andThen, lvd_of (Shp.rd_new (S := dS) (w.alloc (.cells (rSh.v r) 75)) (w.heap.size + 1) 69 r (by simp))]) rfl ⟨rfl, ((Below.refl _ _).alloc (Nat.le_refl _) _).alloc (by simp) _⟩
def Fr (B : Option Addr) (m d : Nat) (l : List Nat) (z : D.Rz) (W : World) : Prop := Row W B m (bys (l.drop z.n)) ∧ m ≤ d ∧ d ≤ 9223372036854775807
theorem Fr.on {B : Option Addr} {m d : Nat} {l : List Nat} {z : D.Rz} {W W' : World} (h : Fr B m d l z W) (b : Below W.heap.size W W') : Fr B m d l z W' := ⟨h.1.on b, h.2⟩
theorem Fr.len {B : Option Addr} {m d : Nat} {l : List Nat} {z : D.Rz} {W : World} (h : Fr B m d l z W) : m = l.length - z.n := by
 have := h.1.len
 rw [bys_len, List.length_drop] at this
 exact this.symm
end Go.Proofs.YtjlaffgbmcpldaaGreatDoor
set_option linter.unusedVariables false
set_option linter.unusedSimpArgs false
set_option maxRecDepth 100000
namespace Go.Proofs.YtjlaffgbmcpldaaGreatDoor
open Go.RowKit
def ycells (x : D.Wt) : List Value := rcells (D.toR x.k) ++ .bool x.d :: dcells x.r
theorem rc25 (k : D.Rk) : (rcells k).length = 25 := rS.len k
theorem ycells_inj {x y : D.Wt} (h : ycells x = ycells y) : x = y := by
 obtain ⟨k, d, r⟩ := x
 obtain ⟨k', d', r'⟩ := y
 have := List.append_inj h (by rw [rc25, rc25])
 obtain rfl := D.toR_inj (rcells_inj this.1)
 have h2 := this.2
 simp only [List.cons.injEq, Value.bool.injEq] at h2
 obtain ⟨rfl, h2⟩ := h2
 rw [dcells_inj h2]
def yS : Shp D.Wt := ⟨ycells, 35, by decide, fun x => by simp [ycells, rc25, dcells], ycells_inj, fun x u hu => by
 rcases List.mem_append.1 hu with hu | hu
 ·exact rS.one _ u hu
 ·rcases List.mem_cons.1 hu with rfl | hu
  ·rfl
  ·exact dS.one x.r u hu⟩
theorem yfa {w : World} {ad : Addr} {x : D.Wt} (h : yS.rd w ad = some x) : rS.rd w ad = some (D.toR x.k) ∧ w.cell? ⟨ad.block, ad.off + 25, none⟩ = some (.bool x.d) ∧ dS.rd w ⟨ad.block, ad.off + 26, none⟩ = some x.r := by
 have hc : yS.At w ad x := Shp.at_of h
 have hn : (rcells (D.toR x.k)).length = 25 := rc25 _
 have c : ∀ j u, (ycells x)[j]? = some u → w.cell? (ad.add j) = some u := hc
 refine ⟨Shp.rd_of fun j u hu => ?_, ?_, Shp.rd_of fun j u hu => ?_⟩
 ·refine c j u ?_
  have hu : (rcells (D.toR x.k))[j]? = some u := hu
  rw [ycells, List.getElem?_append_left (List.getElem?_eq_some_iff.1 hu).1, hu]
 ·exact c 25 (.bool x.d) (by rw [ycells, List.getElem?_append_right (by omega), hn]; rfl)
 ·have e : (⟨ad.block, ad.off + 26, none⟩ : Addr).add j = ad.add (26 + j) := by
   by_cases hj : j = 0
   ·subst hj; rfl
   ·simp only [Addr.add, if_neg hj, if_neg (show ¬ 26 + j = 0 by omega), Nat.add_assoc]
  rw [e]
  refine c (26 + j) u ?_
  rw [ycells, List.getElem?_append_right (by omega), hn, show 26 + j - 25 = j + 1 by omega]
  exact hu
noncomputable def ldy (v : Value) : Sem Value := Instr.loadAt 71 v
noncomputable def lvy (a : Addr) : Sem Value := loadVar 71 a
noncomputable def sty_ (p v : Value) : Sem Unit := Instr.storeAt 71 p v
noncomputable def bdy (ps : Array (Nat × Value)) : Sem Value := Instr.build 71 ps
noncomputable def bsy (n : Nat) (ps : Array (Nat × Value)) : Sem Value := Instr.buildSlice 28 n ps
theorem ld_y (v : Value) : Instr.loadAt 71 v = ldy v := rfl
theorem lv_y (a : Addr) : loadVar 71 a = lvy a := rfl
theorem st_y (p v : Value) : Instr.storeAt 71 p v = sty_ p v := rfl
theorem bd_y (ps : Array (Nat × Value)) : Instr.build 71 ps = bdy ps := rfl
theorem bs_y (n : Nat) (ps : Array (Nat × Value)) : Instr.buildSlice 28 n ps = bsy n ps := rfl
theorem run_lvy (w : World) (a : Addr) : (lvy a).run Tryz.prog w = (yS.rd w a).elim (bl 71 a w) fun x => .ok (.agg (yS.v x)) w := by
 cases h : yS.rd w a with
 | none => rfl
 | some x => exact Shp.loadVar_of Tryz.isAgg71 Tryz.sizeOf71 (Shp.at_of h)
theorem run_ldy (w : World) (a : Addr) : (ldy (.pointer (some a))).run Tryz.prog w = (yS.rd w a).elim (bl 71 a w) fun x => .ok (.agg (yS.v x)) w := by
 rw [← run_lvy]; simp only [ldy, lvy, Instr.loadAt, Instr.sureAddr, Sem.run_bind, Sem.run_pure, Result.andThen_ok]
theorem lvy_of {w : World} {a : Addr} {x : D.Wt} (h : yS.rd w a = some x) : (loadVar 71 a).run Tryz.prog w = .ok (.agg (yS.v x)) w := (run_lvy w a).trans (by rw [h]; rfl)
theorem run_sty_ (w : World) (g : Nat) (x : D.Wt) : (sty_ (.pointer (some ⟨g, 0, none⟩)) (.agg (yS.v x))).run Tryz.prog w = bif Shp.tn 35 w g then .ok () (w.setRow g (yS.v x)) else bs 71 g (yS.v x) w := by
 cases h : Shp.tn 35 w g with
 | false => rfl
 | true => exact Shp.storeVar_of (S := yS) h x fun t' cs hb hs => run_storeVar_row (P := Tryz.prog) w g t' _ cs (yS.v x) hb.out (by rw [yS.v_size]; kernel_rfl) hs (yS.v_one x)
theorem bdy_list (w : World) (d : Bool) (r : D.Rc) : ∀ l : List Value, l.length = 25 → (bdy #[(0, .agg l.toArray), (1, .bool d), (2, .agg (dS.v r))]).run Tryz.prog w = .ok (.agg (l ++ .bool d :: dcells r).toArray) w
 | [a0, a1, a2, a3, a4, a5, a6, a7, a8, a9, a10, a11, a12, a13, a14, a15, a16, a17, a18, a19, a20, a21, a22, a23, a24], _ => by
  rw [show dS.v r = (dcells r).toArray from rfl]
  simp [bdy, dcells, Instr.build, go_sem]
theorem run_bdy (w : World) (x : D.Wt) : (bdy #[(0, .agg (rS.v (D.toR x.k))), (1, .bool x.d), (2, .agg (dS.v x.r))]).run Tryz.prog w = .ok (.agg (yS.v x)) w := bdy_list w x.d x.r (rcells (D.toR x.k)) (rc25 _)
theorem bsy_list (w : World) (d : Bool) (r : D.Rc) : ∀ l : List Value, l.length = 25 → (bsy 1 #[(0, .agg (l ++ .bool d :: dcells r).toArray)]).run Tryz.prog w = .ok (.slice (some ⟨w.heap.size, 0, none⟩) 1 1) (w.alloc (.cells (l ++ .bool d :: dcells r).toArray 71))
 | [a0, a1, a2, a3, a4, a5, a6, a7, a8, a9, a10, a11, a12, a13, a14, a15, a16, a17, a18, a19, a20, a21, a22, a23, a24], _ => by
  simp [bsy, dcells, Instr.buildSlice, go_sem]
theorem run_bsy1 (w : World) (x : D.Wt) : (bsy 1 #[(0, .agg (yS.v x))]).run Tryz.prog w = .ok (.slice (some ⟨w.heap.size, 0, none⟩) 1 1) (w.alloc (.cells (yS.v x) 71)) := bsy_list w x.d x.r (rcells (D.toR x.k)) (rc25 _)
theorem ywr_under : Tryz.prog.underlying 28 = some (.slice 71) := by kernel_rfl
theorem ywr_info : (Tryz.prog.info? 71).map (fun i => (i.zero, i.size, i.bytes)) = some (some (.agg (yS.v D.zWt)), 35, 136) := by kernel_rfl
def LOt : Prop := ∀ (x : D.Ky) (w : World), Calls Tryz.prog 26 #[.agg (kS.v x)] w fun e w' => e = .returned (.agg (rS.v (D.toR x))) ∧ Below w.heap.size w w'
def z35 : Array Value := #[.int .i64 0, .int .i64 0, .int .i64 0, .int .u8 0, .int .u8 0, .int .u8 0, .int .u8 0, .int .u8 0, .int .u8 0, .int .u8 0, .int .u8 0, .int .u8 0, .int .u8 0, .int .u8 0, .int .u8 0, .int .u8 0, .int .u8 0, .int .u8 0, .int .u8 0, .int .u8 0, .int .u8 0, .int .u8 0, .int .u8 0, .int .u8 0, .int .u8 0, .bool false, .int .i64 0, .int .i64 0, .int .i64 0, .int .i64 0, .int .i64 0, .bool false, .int .u64 0, .int .u64 0, .string ⟨#[]⟩]
attribute [local go_sem ↓] Go.wp_at_zero Go.wp_at_succ ld_k lv_k st_k eq_k ne_k bd_k ld_b lv_b st_b eq_b ne_b bd_25 ld_r lv_r st_rk eq_rk ne_rk bd_r ld_p lv_p st_px bd_p Nm.ld_a Nm.ld_n Nm.st_a Nm.st_n Nm.eq_a Nm.eq_n Nm.ne_a Nm.ne_n Nm.lv_a Nm.lv_n ld_a ld_n st_a st_n eq_a eq_n ne_a ne_n lv_a lv_n ld_l lv_l st_l bd_l bd_n bs_k ld_v lv_v st_v ne_v bd_v bs_v ld_rh ld_d lv_rh lv_d st_r st_d ne_rh eq_rh ne_d bd_rh bd_d ld_x lv_x st_x bd_x bs_x ld_e lv_e st_e bd_e bs_e ne_e
attribute [local go_sem] run_ldk run_lvk run_stk run_eqk run_nek run_bdk_z run_ldb run_lvb run_stb run_eqb run_neb run_ldr run_lvr run_strk run_eqrk run_nerk run_bdr_z run_ldp run_lvp run_stpx Nm.run_ld_a Nm.run_ld_n Nm.run_st_n Nm.run_eq_a Nm.run_eq_n Nm.run_ne_a Nm.run_ne_n Nm.run_lv_a Nm.run_lv_n Nm.rd_new Nm.rd_old Nm.rd_drew Nm.rd_drewN run_ld_a run_ld_n run_sw_a run_sw_n run_eq_a run_eq_n run_ne_a run_ne_n run_lv_a run_lv_n st_z ne_z eq_z rd_new rd_old rd_drew rd_drewN Shp.rd_new Shp.rd_old Shp.rd_drew Shp.rd_drewN Shp.rd_set Shp.tn_new Shp.tn_old Shp.tn_drew Shp.tn_drewN tn_new tn_old tn_drew tn_drewN rd_set setRow_alloc run_stn3 run_stt15 run_lvl run_ldl run_stl run_bdl run_bdn run_bdn0 run_bsk Shp.rd_extk cell_ext run_ldv run_lvv run_stv run_nev run_bdv_z run_bdv_d run_bdv_r run_bsv1 run_bsv0 run_ldrh run_ldd run_lvrh run_lvd run_str run_std run_nerh run_eqrh run_ned run_bdr0 run_bdd0 run_bdr1 run_bdd1 run_bdd9 run_ldx run_lvx run_stx run_lde run_lve run_bde run_bse1 run_bdv_3 Shp.rd_extk cell_ext
attribute [local go_sem ↓] ld_y lv_y st_y bd_y bs_y
attribute [local go_sem] run_ldy run_lvy run_sty_ run_bdy run_bsy1
set_option maxHeartbeats 2000000 in
theorem wof_any (hL : LOt) (x : D.Wt) (w : World) (hw : x.r.wf) : Calls Tryz.prog 15 #[.agg (xS.v x)] w fun e w' => e = .returned (.agg (yS.v x)) ∧ Below w.heap.size w w' := by
 obtain ⟨w1, hw1⟩ : ∃ w1, (w.alloc (.cells (xS.v x) 77)).alloc (.cells z35 71) = w1 := ⟨_, rfl⟩
 have f1 : xS.rd w1 ⟨w.heap.size, 0, none⟩ = some x := by rw [← hw1]; exact Shp.rd_on (Shp.rd_new (S := xS) w _ _ _ rfl) (below_alloc_ _ _)
 have b1 : Below w.heap.size w w1 := by rw [← hw1]; exact (below_alloc_ _ _).alloc (by simp) _
 have t1 : Shp.tn 35 w1 (w.heap.size + 1) = true := by rw [← hw1]; exact Shp.tn_new _ _ _ _ _ (by simp) rfl
 unfold z35 at hw1
 have HL := Lib.hid hL
 have HW := Lib.hid hw
 clear hL hw
 go_enter Tryz.func15, Tryz.ntmps15
 go_wp2_with fail
 try rw [hw1]
 clear hw1
 have sk : Hid (∀ V, Below w1.heap.size w1 V → Below w.heap.size w V ∧ xS.rd V ⟨w.heap.size, 0, none⟩ = some x ∧ Shp.tn 35 V (w.heap.size + 1) = true) := Lib.hid fun V hV => ⟨below_up b1 b1.size hV, Shp.rd_on f1 hV, Shp.tn_on t1 hV⟩
 have bd : Below w1.heap.size w1 w1.drew := (Below.refl _ _).drew
 have sd := sk.out _ bd
 refine wp_region_noPanic ?_
 refine wp_region_held_drew (S := (fun V => Below w.heap.size w V ∧ xS.rd V ⟨w.heap.size, 0, none⟩ = some x ∧ Shp.tn 35 V (w.heap.size + 1) = true)) (by kernel_rfl) sd (fun _ => ?_)
 refine takeT 0 (some 3) ?v2 ?hy2 sd ?rest2
 case hy2 => (intro o ho W hW; simp only [gT, gS, gZ, sI] at ho; subst ho; (try dsimp only at hW); go_simp; try rfl)
 try simp only [Act.put, iT, iZ, iS]
 refine takeT 3 (some 6) ?v3 ?hy3 sd ?rest3
 case hy3 => (intro o ho W hW; simp only [gT, gS, gZ, sI] at ho; subst ho; (try dsimp only at hW); go_simp; try rfl)
 try simp only [Act.put, iT, iZ, iS]
 refine takeT 5 (some 8) ?v4 ?hy4 sd ?rest4
 case hy4 => (intro o ho W hW; simp only [gT, gS, gZ, sI] at ho; subst ho; (try dsimp only at hW); go_simp; try rfl)
 try simp only [Act.put, iT, iZ, iS]
 refine takeT 1 (some 4) ?v5 ?hy5 sd ?rest5
 case hy5 => (intro o ho W hW; simp only [gT, gS, gZ, sI] at ho; subst ho; (try dsimp only at hW); obtain ⟨h1_, h2_, h3_⟩ := hW; obtain ⟨k_, d_, r_⟩ := xf h2_; go_simp; try rfl)
 try simp only [Act.put, iT, iZ, iS]
 refine takeT 4 (some 7) ?v6 ?hy6 sd ?rest6
 case hy6 => (intro o ho W hW; simp only [gT, gS, gZ, sI] at ho; subst ho; (try dsimp only at hW); obtain ⟨h1_, h2_, h3_⟩ := hW; obtain ⟨k_, d_, r_⟩ := xf h2_; go_simp; try rfl)
 try simp only [Act.put, iT, iZ, iS]
 refine takeT 6 (some 9) ?v7 ?hy7 sd ?rest7
 case hy7 => (intro o ho W hW; simp only [gT, gS, gZ, sI] at ho; subst ho; (try dsimp only at hW); obtain ⟨h1_, h2_, h3_⟩ := hW; obtain ⟨k_, d_, r_⟩ := xf h2_; go_simp; try rfl)
 try simp only [Act.put, iT, iZ, iS]
 refine nextS 2 (by kernel_rfl) (by rfl) (fun o ho K hK => ?_)
 simp only [gT, gS, gZ, sI] at ho; subst ho
 go_simp
 go_at_call 26
 refine (HL.out x.k _).mono ?_
 rintro e w2 ⟨rfl, b2⟩
 have b3 := below_up bd bd.size b2
 have s3 := sk.out _ b3
 refine hK.out _ _ s3 (fun _ => ?_)
 clear hK K
 try simp only [Act.put, iT, iZ, iS]
 refine nextS 7 (by kernel_rfl) (by rfl) (fun o ho K hK => ?_)
 simp only [gT, gS, gZ, sI] at ho; subst ho
 go_simp
 go_at_call 48
 refine (of_anyh x.r _ HW.out).mono ?_
 rintro e w4 ⟨rfl, b4⟩
 have b5 := below_up b3 b3.size b4
 have s5 := sk.out _ b5
 refine hK.out _ _ s5 (fun _ => ?_)
 clear hK K
 try simp only [Act.put, iT, iZ, iS]
 refine takeT 8 (some 11) ?v12 ?hy12 s5 ?rest12
 case hy12 => (intro o ho W hW; simp only [gT, gS, gZ, sI] at ho; subst ho; (try dsimp only at hW); go_simp; try rfl)
 try simp only [Act.put, iT, iZ, iS]
 have t5 := s5.2.2
 refine nextS 9 (by kernel_rfl) (by rfl) (fun o ho K hK => ?_)
 simp only [gT, gS, gZ, sI] at ho; subst ho
 go_simp
 have s6 : Below w.heap.size w (w4.setRow (w.heap.size + 1) (yS.v x)) ∧ xS.rd (w4.setRow (w.heap.size + 1) (yS.v x)) ⟨w.heap.size, 0, none⟩ = some x ∧ Shp.tn 35 (w4.setRow (w.heap.size + 1) (yS.v x)) (w.heap.size + 1) = true := ⟨bel_setRow s5.1 (Nat.le_succ _) _, (Shp.rd_far _ _ _ _ (by simp only; omega)).trans s5.2.1, Shp.tn_setRow _ (by rw [yS.v_size]; rfl) t5⟩
 refine hK.out _ _ s6 (fun _ => ?_)
 clear hK K
 try simp only [Act.put, iT, iZ, iS]
 refine wpAnyH_done (by kernel_rfl) ?_ _
 refine NoPanic.normal ?_
 go_wp2
 have hset := Shp.rd_set (S := yS) w4 (w.heap.size + 1) x t5
 exact bodyPost_ret (v := .agg (yS.v x)) (by rw [Nm.results_cell1 rfl]; simp [asAddr, Result.andThen, lvy_of hset]) rfl ⟨rfl, s6.1⟩
end Go.Proofs.YtjlaffgbmcpldaaGreatDoor
