/-
  
-/
import Derived.Test.YtjlaffgbmcpldaaGreatDoorG23
import Derived.Test.YtjlaffgbmcpldaaGreatDoorG25
import Derived.Test.YtjlaffgbmcpldaaGreatDoorG28
import Derived.Test.YtjlaffgbmcpldaaGreatDoorG29
import Derived.Test.YtjlaffgbmcpldaaGreatDoorG26
import Derived.Lib.TrailingZeros
import Derived.Test.YtjlaffgbmcpldaaGreatDoorShp
import Derived.Test.YtjlaffgbmcpldaaGreatDoorG16
import Derived.Test.YtjlaffgbmcpldaaGreatDoorGow
import Derived.Test.YtjlaffgbmcpldaaGreatDoorG13
import Derived.Maps.Own
import Derived.Maps.OwnSet
set_option linter.unusedVariables false
set_option linter.unusedSimpArgs false
set_option maxRecDepth 100000
namespace Go.Proofs.YtjlaffgbmcpldaaGreatDoor
open Go.RowKit
attribute [local go_sem ↓] Go.wp_at_zero Go.wp_at_succ ld_k lv_k st_k eq_k ne_k bd_k ld_b lv_b st_b eq_b ne_b bd_25 ld_r lv_r st_rk eq_rk ne_rk bd_r ld_p lv_p st_px bd_p Nm.ld_a Nm.ld_n Nm.st_a Nm.st_n Nm.eq_a Nm.eq_n Nm.ne_a Nm.ne_n Nm.lv_a Nm.lv_n ld_a ld_n st_a st_n eq_a eq_n ne_a ne_n lv_a lv_n ld_l lv_l st_l bd_l bd_n bs_k
attribute [local go_sem] run_ldk run_lvk run_stk run_eqk run_nek run_bdk_z run_ldb run_lvb run_stb run_eqb run_neb run_ldr run_lvr run_strk run_eqrk run_nerk run_bdr_z run_ldp run_lvp run_stpx Nm.run_ld_a Nm.run_ld_n Nm.run_st_n Nm.run_eq_a Nm.run_eq_n Nm.run_ne_a Nm.run_ne_n Nm.run_lv_a Nm.run_lv_n Nm.rd_new Nm.rd_old Nm.rd_drew Nm.rd_drewN run_ld_a run_ld_n run_sw_a run_sw_n run_eq_a run_eq_n run_ne_a run_ne_n run_lv_a run_lv_n st_z ne_z eq_z rd_new rd_old rd_drew rd_drewN Shp.rd_new Shp.rd_old Shp.rd_drew Shp.rd_drewN Shp.rd_set Shp.tn_new Shp.tn_old Shp.tn_drew Shp.tn_drewN tn_new tn_old tn_drew tn_drewN rd_set setRow_alloc run_stn3 run_stt15 run_lvl run_ldl run_stl run_bdl run_bdn run_bdn0 run_bsk Shp.rd_extk cell_ext
def dst (s : List Lf × Nat) (k : D.Ky) : List Lf × Nat := (Cr.del k s.1, s.2 + if Cr.has k s.1 then 1 else 0)
def dls (m : List Lf) (ks : List D.Ky) : List Lf × Nat := ks.foldl dst (m, 0)
structure DelC (w : World) (g : Nat) (o : Option Tk) (w' : World) (o' : Option Tk) (l : List Lf) : Prop where
 tc : TC w' g o'
 ls : Cr.Tr.lso o' = l
 ov : Ov w.heap.size (g :: blo o) w w'
 old : ∀ q ∈ blo o', q ∈ blo o
theorem DelC.on {w w1 w2 : World} {g : Nat} {o o' : Option Tk} {l : List Lf} (h : DelC w g o w1 o' l) (hb : Below w1.heap.size w1 w2) : DelC w g o w2 o' l := ⟨h.tc.on hb, h.ls, h.ov.on (Nat.le_refl _) hb, h.old⟩
theorem DelC.lt {w w1 : World} {g : Nat} {o o' : Option Tk} {l : List Lf} (h : DelC w g o w1 o' l) : w.heap.size ≤ w1.heap.size := h.ov.size
theorem DelC.rd {w w1 : World} {g : Nat} {o o' : Option Tk} {l : List Lf} (h : DelC w g o w1 o' l) {b d : Nat} {k : D.Ky} (hk : kS.rd w ⟨b, d, none⟩ = some k) (hb : b ∉ g :: blo o) : kS.rd w1 ⟨b, d, none⟩ = some k := (Shp.rd_to (h.ov.block b (Shp.rd_lt hk) hb)).trans hk
theorem DelC.step {w w1 w2 : World} {g : Nat} {o : Option Tk} {t : Tk} {l : List Lf} {k : D.Ky} (h : DelC w g o w1 (some t) l) (hT : TC w2 g (t.del k)) (hl : Cr.Tr.lso (t.del k) = Cr.del k t.ls) (hq : ∀ q ∈ blo (t.del k), q ∈ t.bl) (hO : Ov w1.heap.size (g :: t.bl) w1 w2) : DelC w g o w2 (t.del k) (Cr.del k l) := by
 refine ⟨hT, by rw [hl, ← h.ls]; rfl, ?_, fun q e => h.old q (hq q e)⟩
 refine h.ov.trans ⟨hO.os, hO.tape, hO.output, hO.size, fun q h1 h2 => hO.block q (Nat.lt_of_lt_of_le h1 h.ov.size) (fun c => h2 ?_)⟩
 rcases List.mem_cons.1 c with rfl | c
 ·exact List.mem_cons_self ..
 ·exact List.mem_cons_of_mem _ (h.old q c)
theorem lf_hd {k : D.Ky} {t : Tk} {a : Nat} {v : Vl} (h : t.near k = .lf a k v) : (t.near k).hd.1 = k := by rw [h]; rfl
set_option maxHeartbeats 4000000 in
theorem del_one (g : Nat) (o : Option Tk) (k : D.Ky) (b c : Nat) (w : World) (hT : TC w g o) (hk0 : kS.rd w ⟨b, 0, none⟩ = some k) (hb : b ∉ g :: blo o) : Calls Tryz.prog 158 #[.pointer (some ⟨g, 0, none⟩), .slice (some ⟨b, 0, none⟩) 1 c] w fun e w' => e = .returned (.int .i64 ((dls (Cr.Tr.lso o) [k]).2 : Nat)) ∧ ∃ o', DelC w g o w' o' (dls (Cr.Tr.lso o) [k]).1 := by
 have hbw := Shp.rd_lt hk0
 have HT := Lib.hid hT
 obtain ⟨m, hm⟩ : ∃ m, Cr.Tr.lso o = m := ⟨_, rfl⟩
 rw [hm]
 have hD0 : DelC w g o w o m := ⟨hT, hm, Ov.refl _ _ _, fun q h => h⟩
 clear hT
 go_enter Tryz.func158, Tryz.ntmps158
 go_wp2
 go_loopw [5, 7, 10] (fun v _ i wr => ∃ j : Nat, j ≤ 1 ∧ v = .int .i64 ((dls m ([k].take j)).2 : Nat) ∧ i = .int .i64 j ∧ ∃ o', DelC w g o wr o' (dls m ([k].take j)).1) (fun _ _ i _ => 1 - (intOf i).toNat)
 case atStart => exact ⟨0, Nat.zero_le _, rfl, rfl, o, hD0⟩
 case round =>
  obtain ⟨j, hj, rfl, rfl, o', hD⟩ := hrel
  clear hD0
  have hcn : (dls m ([k].take j)).2 ≤ j := by
   have : ∀ (l : List D.Ky) (s : List Lf × Nat), (l.foldl dst s).2 ≤ s.2 + l.length := by
    intro l
    induction l with
    | nil => intro s; exact Nat.le_refl _
    | cons x l ih =>
     intro s
     refine Nat.le_trans (ih _) ?_
     have : (dst s x).2 ≤ s.2 + 1 := by unfold dst; simp only; split <;> omega
     simp only [List.length_cons]; omega
   have := this ([k].take j) (m, 0)
   simp only [List.length_take] at this
   unfold dls
   omega
  obtain ⟨s, hs⟩ : ∃ s, dls m ([k].take j) = s := ⟨_, rfl⟩
  rw [hs] at hcn hD ⊢
  have hnx : ∀ x : D.Ky, [k][j]? = some x → dls m ([k].take (j + 1)) = dst s x := fun x e => by
   have hlt := (List.getElem?_eq_some_iff.1 e).1
   have h2 := (List.getElem?_eq_some_iff.1 e).2
   rw [← hs]
   unfold dls
   rw [List.take_succ_eq_append_getElem hlt, List.foldl_append, h2]
   rfl
  have hsd : j = 1 → s = dls m [k] := fun e => by rw [← hs, e]; rfl
  clear hs
  obtain rfl | rfl : j = 0 ∨ j = 1 := by omega
  ·have hnx := hnx k rfl
   have HN := Lib.hid hnx
   clear hnx
   have hk0' := hD.rd hk0 hb
   obtain ⟨q, hq⟩ : ∃ q, s.2 = q := ⟨_, rfl⟩
   rw [hq] at hcn ⊢
   have HQ := Lib.hid hq
   have i0 : (0 : Int) ≤ (q : Int) := by omega
   have i1 : (q : Int) ≤ 2 := by omega
   obtain ⟨w0, hw0⟩ : ∃ w0, wr.alloc (.cells (kS.v k) 39) = w0 := ⟨_, rfl⟩
   have b0 : Below wr.heap.size wr w0 := by rw [← hw0]; exact below_alloc_ _ _
   have f0 : kS.rd w0 ⟨wr.heap.size, 0, none⟩ = some k := by rw [← hw0]; exact Shp.rd_new _ _ _ _ rfl
   have hD1 := hD.on b0
   have CH := Lib.hid (fun w1 (hT : TC w1 g o') => held_any g o' k w1 hT.tr)
   clear hq hcn
   rcases hld_has hD.tc.tr k with ⟨h1, h2⟩ | ⟨t, a, v, rfl, hn, h2, h3, _⟩
   ·rw [h2] at CH
    rw [hD.ls] at h1
    have HX := Lib.hid h1
    clear h1 h2 hD
    go_wp2_with fail
    try rw [hw0]
    clear hw0
    go_wp2_with (go_at_call 121; (with_reducible refine (CH.out _ hD1.tc).mono ?_); rintro e w1 ⟨rfl, b1⟩; have hD2 := hD1.on b1)
    go_roundw
    case rel =>
     refine ⟨1, by omega, ?_, by go_num, o', ?_⟩
     ·rw [HN.out]; unfold dst; rw [HX.out, HQ.out]; rfl
     ·rw [HN.out]; unfold dst; rw [Cr.del_not HX.out]; exact hD2
    case measure => simp [intOf]
   ·rw [h2] at CH
    have CD := Lib.hid (fun w1 (hT : TC w1 g (some t)) => drop_any g t k w1 hT (lf_hd hn))
    rw [hD.ls] at h3
    have HX := Lib.hid h3
    clear h3 h2 hD hn
    go_wp2_with fail
    try rw [hw0]
    clear hw0
    go_wp2_with (first
     | (go_at_call 121; (with_reducible refine (CH.out _ hD1.tc).mono ?_); rintro e w1 ⟨rfl, b1⟩; have hD2 := hD1.on b1; have f1 := Shp.rd_on f0 b1)
     | (go_at_call 183; (with_reducible refine (CD.out _ hD2.tc).mono ?_); rintro e w2 ⟨⟨x, rfl⟩, d1, d2, d3, d4⟩; have HD3 := Lib.hid (hD2.step d1 d2 d3 d4); clear d1 d2 d3 d4))
    go_roundw
    case rel =>
     refine ⟨1, by omega, ?_, by go_num, t.del k, ?_⟩
     ·rw [HN.out]; unfold dst; rw [HX.out, HQ.out]; rfl
     ·rw [HN.out]; exact HD3.out
    case measure => simp [intOf]
  ·have hs2 : s = dls m [k] := hsd rfl
   go_wp2
   go_ret
   exact ⟨by first | rfl | rw [hs2], o', by first | exact hD | (rw [← hs2]; exact hD)⟩
end Go.Proofs.YtjlaffgbmcpldaaGreatDoor
namespace Go.Proofs.YtjlaffgbmcpldaaGreatDoor
open Go.RowKit
noncomputable def bslk (n : Nat) (ps : Array (Nat × Value)) : Sem Value := Instr.buildSlice 106 n ps
theorem bsl_k (n : Nat) (ps : Array (Nat × Value)) : Instr.buildSlice 106 n ps = bslk n ps := rfl
theorem fill_k (z : Array Value) (hz : z.size = 25) : ∀ l : List Value, l.length = 25 → Instr.fill (fun i => some (i * 25, 25)) ((Array.range (1 * 25)).map (z[· % z.size]!)) [(0, .agg l.toArray)] = some l.toArray
 | [x0, x1, x2, x3, x4, x5, x6, x7, x8, x9, x10, x11, x12, x13, x14, x15, x16, x17, x18, x19, x20, x21, x22, x23, x24], _ => by
  simp [go_sem]
theorem run_bslk (w : World) (x : D.Ky) : (bslk 1 #[(0, .agg (kS.v x))]).run Tryz.prog w = .ok (.slice (some ⟨w.heap.size, 0, none⟩) 1 1) (w.alloc (.cells (kS.v x) 39)) := by
 have hf := fill_k (kS.v D.zK) (kS.v_size _) (kS.cs x) (kS.len x)
 have hz : (zeroValue 39).run Tryz.prog w = .ok (.agg (kS.v D.zK)) w := by kernel_rfl
 simp only [bslk, Instr.buildSlice, Sem.run_bind, Tryz.runUnderlying106, Result.andThen_ok, Tryz.sizeOf39]
 simp only [Nat.reduceMul, Nat.reducePow, Nat.reduceLT, gt_iff_lt, Nat.reduceEqDiff, if_false, Sem.run_pure, Sem.run_bind, hz, Result.andThen_ok, Value.cells] at hf ⊢
 rw [show (kS.v x) = (kS.cs x).toArray from rfl, hf]
 rfl
attribute [local go_sem ↓] Go.wp_at_zero Go.wp_at_succ ld_k lv_k st_k eq_k ne_k bd_k ld_b lv_b st_b eq_b ne_b bd_25 ld_r lv_r st_rk eq_rk ne_rk bd_r ld_p lv_p st_px bd_p Nm.ld_a Nm.ld_n Nm.st_a Nm.st_n Nm.eq_a Nm.eq_n Nm.ne_a Nm.ne_n Nm.lv_a Nm.lv_n ld_a ld_n st_a st_n eq_a eq_n ne_a ne_n lv_a lv_n ld_l lv_l st_l bd_l bd_n bs_k ld_v lv_v st_v ne_v bd_v bs_v ld_w lv_w st_w ne_w bd_w bs_w ld_rh ld_d lv_rh lv_d st_r st_d ne_rh eq_rh ne_d bd_rh bd_d ld_x lv_x st_x bd_x bs_x ld_e lv_e st_e bd_e bs_e ne_e
attribute [local go_sem] run_ldk run_lvk run_stk run_eqk run_nek run_bdk_z run_ldb run_lvb run_stb run_eqb run_neb run_ldr run_lvr run_strk run_eqrk run_nerk run_bdr_z run_ldp run_lvp run_stpx Nm.run_ld_a Nm.run_ld_n Nm.run_st_n Nm.run_eq_a Nm.run_eq_n Nm.run_ne_a Nm.run_ne_n Nm.run_lv_a Nm.run_lv_n Nm.rd_new Nm.rd_old Nm.rd_drew Nm.rd_drewN run_ld_a run_ld_n run_sw_a run_sw_n run_eq_a run_eq_n run_ne_a run_ne_n run_lv_a run_lv_n st_z ne_z eq_z rd_new rd_old rd_drew rd_drewN Shp.rd_new Shp.rd_old Shp.rd_drew Shp.rd_drewN Shp.rd_set Shp.tn_new Shp.tn_old Shp.tn_drew Shp.tn_drewN tn_new tn_old tn_drew tn_drewN rd_set setRow_alloc run_stn3 run_stt15 run_lvl run_ldl run_stl run_bdl run_bdn run_bdn0 run_bsk Shp.rd_extk cell_ext run_ldv run_lvv run_stv run_nev run_bdv_z run_bdv_d run_bdv_r run_bsv1 run_bsv0 run_ldw run_lvw run_stw run_new run_bdw_3 run_bsw1 run_bsw0 run_ldrh run_ldd run_lvrh run_lvd run_str run_std run_nerh run_eqrh run_ned run_bdr0 run_bdd0 run_bdr1 run_bdd1 run_bdd9 run_ldx run_lvx run_stx run_lde run_lve run_bde run_bse1 run_bdv_3 Shp.rd_extk cell_ext
attribute [local go_sem ↓] bsl_k
attribute [local go_sem] run_bslk
def Frt (base top : Nat) (w w' : World) : Prop := Only (fun i => (base ≤ i ∧ Sty w i) ∧ i < top) w w'
theorem Frt.frm {base top : Nat} {w w' : World} (h : Frt base top w w') : Frm base w w' := Only.more h fun i hi => hi.1
theorem Frt.below_ {base top : Nat} {w w1 : World} (hb : Below w.heap.size w w1) : Frt base top w w1 := only_below hb
theorem Frt.on {base top : Nat} {w w1 w2 : World} (h : Frt base top w w1) (hb : Below w1.heap.size w1 w2) : Frt base top w w2 := Only.on h hb
theorem Frt.trans {base top : Nat} {w w1 w2 : World} (h : Frt base top w w1) (k : Frt base top w1 w2) : Frt base top w w2 :=
 Only.trans (S := fun i => (base ≤ i ∧ Sty w i) ∧ i < top) h k fun i ⟨⟨h1, cs, T, f, h2, h3⟩, h4⟩ => by
  by_cases hi : i < w.heap.size
  ·by_cases hS : (base ≤ i ∧ Sty w i) ∧ i < top
   ·exact .inl hS
   ·exact .inl ⟨⟨h1, cs, T, f, (h.block i hi hS).symm.trans h2, h3⟩, h4⟩
  ·exact .inr (by omega)
def SMt (base top : Nat) (w : World) (s : Nat) (M : D.Sm) : Prop := ∃ g o q, SC base w s g o q (M.live : Nat) M ∧ (∀ i ∈ g :: blo o, i < top) ∧ ∀ k ∈ M.ks, (q k).b < top
theorem SMt.sm {base top s : Nat} {w : World} {M : D.Sm} (h : SMt base top w s M) : SM base w s M := let ⟨g, o, q, h, _⟩ := h; ⟨g, o, q, h⟩
theorem SMt.on {base top s : Nat} {w w' : World} {M : D.Sm} (h : SMt base top w s M) (hb : Below w.heap.size w w') : SMt base top w' s M := let ⟨g, o, q, h, r⟩ := h; ⟨g, o, q, h.on hb, r⟩
theorem SM.smt {base s : Nat} {w : World} {M : D.Sm} (h : SM base w s M) : SMt base w.heap.size w s M := by
 obtain ⟨g, o, q, h⟩ := h
 refine ⟨g, o, q, h, fun i hi => ?_, fun k hk => (h.cn k hk).blk.lt⟩
 obtain ⟨cs, T, hB, _⟩ := h.tc.ty i hi
 exact hB.lt
section
variable {base s g : Nat} {w w' : World} {o : Option Tk} {q : D.Ky → Qd} {lv : Int} {last : Nat} {ks : List D.Ky} {f : D.Ky → List D.Vn} {M : D.Sm}
theorem SK.delk (h : SK base w s g o q lv last ks f) (k : D.Ky) {o' : Option Tk} {top : Nat} (htop : ∀ i ∈ g :: blo o, i < top) (hp : DelC w g o w' o' (dls (Cr.Tr.lso o) [k]).1) : SK base w' s g o' q lv last (ks.filter fun y => decide (y ≠ k)) f ∧ Frt base top w w' := by
 have out : ∀ {i T cs}, Blk w i T cs → T ≠ tT → T ≠ nT → w'.heap[i]? = w.heap[i]? := fun {i T cs} hB h1 h2 => hp.ov.block i hB.lt fun e => by
  obtain ⟨ds, T', hB', hT⟩ := h.tc.ty i e
  have := hB.out.symm.trans hB'.out
  injection this with this
  injection this with _ e2
  rcases hT with rfl | rfl
  ·exact h1 e2
  ·exact h2 e2
 have hO : Only (fun i => i ∈ g :: blo o) w w' := ⟨hp.ov.os, hp.ov.tape, hp.ov.output, hp.ov.size, fun i hi hn => hp.ov.block i hi hn⟩
 have inn : ∀ y ∈ ks.filter (fun y => decide (y ≠ k)), y ∈ ks := fun y hy => (List.mem_filter.1 hy).1
 refine ⟨⟨⟨(out h.blk (by decide) (by decide)).trans h.blk.out⟩, hp.tc, ?_, fun y hy => ?_, fun y hy x hx hne => h.ap y (inn y hy) x (inn x hx) hne, h.bs, fun i hi => ?_⟩, ?_⟩
 ·rw [hp.ls, h.ls]
  show Cr.del k (ks.map fun y => (y, some (⟨(q y).b, 0, none⟩ : Addr))) = _
  unfold Cr.del
  rw [List.filter_map]
  rfl
 ·have hy2 := inn y hy
  refine (h.cn y hy2).only hO (fun c => ?_) fun i hi c => ?_
  ·obtain ⟨ds, T', hB', hT⟩ := h.tc.ty _ c
   exact ty_ne (h.cn y hy2).blk hB'.out (by rcases hT with rfl | rfl <;> decide) rfl
  ·obtain ⟨ds, T', hB', hT⟩ := h.tc.ty _ c
   obtain ⟨es, e2⟩ := ow_block (h.cn y hy2).own hi
   exact ty_ne hB' e2 (by rcases hT with rfl | rfl <;> decide) rfl
 ·rcases List.mem_cons.1 hi with rfl | hi
  ·exact h.bg _ (by simp)
  ·exact h.bg i (by simp [hp.old i hi])
 ·refine Only.more hO fun i c => ?_
  obtain ⟨ds, T', hB', hT⟩ := h.tc.ty _ c
  exact ⟨⟨h.bg i c, _, _, _, hB'.out, by rcases hT with rfl | rfl <;> decide⟩, htop i c⟩
theorem SK.qb (h : SK base w s g o q lv last ks f) {q' : D.Ky → Qd} {f' : D.Ky → List D.Vn} (k : SK base w' s g o q' lv last ks f') : ∀ y ∈ ks, (q' y).b = (q y).b := fun y hy => by
 have e := h.ls.symm.trans k.ls
 have := List.map_inj_left.1 e y hy
 simp only [Prod.mk.injEq, Option.some.injEq, Addr.mk.injEq, and_true, true_and] at this
 exact this.symm
end
theorem SC.away {S : Nat → Prop} {base s g : Nat} {w w' : World} {o : Option Tk} {q : D.Ky → Qd} {lv : Int} {M : D.Sm} (h : SC base w s g o q lv M) (k : Only S w w') (hS : ∀ i cs T f, base ≤ i → w.heap[i]? = some (Obj.cells cs T f) → T ∈ sts → ¬ S i) : SC base w' s g o q lv M := by
 have hk := h.sk
 have key : ∀ {i T cs}, base ≤ i → Blk w i T cs → T ∈ sts → w'.heap[i]? = w.heap[i]? := fun {i T cs} hb hB hT => k.block i hB.lt (hS i _ _ _ hb hB.out hT)
 refine ⟨⟨⟨(key hk.bs hk.blk (by decide)).trans hk.blk.out⟩, hk.tc.kept fun i hi => ?_, hk.ls, fun y hy => (hk.cn y hy).only k (hS _ _ _ _ (hk.cn y hy).gb (hk.cn y hy).blk.out (by decide)) fun i hi => ?_, hk.ap, hk.bs, hk.bg⟩, h.wf⟩
 ·obtain ⟨cs, T, hB, hT⟩ := hk.tc.ty i hi
  exact key (hk.bg i hi) hB (by rcases hT with rfl | rfl <;> decide)
 ·obtain ⟨cs, e⟩ := ow_block (hk.cn y hy).own hi
  exact hS i _ _ _ ((hk.low hy).2 i hi).1 e (by decide)
theorem SM.away {S : Nat → Prop} {base s : Nat} {w w' : World} {M : D.Sm} (h : SM base w s M) (k : Only S w w') (hS : ∀ i cs T f, base ≤ i → w.heap[i]? = some (Obj.cells cs T f) → T ∈ sts → ¬ S i) : SM base w' s M := let ⟨g, o, q, h⟩ := h; ⟨g, o, q, h.away k hS⟩
theorem SMt.away {S : Nat → Prop} {base top s : Nat} {w w' : World} {M : D.Sm} (h : SMt base top w s M) (k : Only S w w') (hS : ∀ i cs T f, w.heap[i]? = some (Obj.cells cs T f) → T ∈ sts → ¬ S i) : SMt base top w' s M := let ⟨g, o, q, h, r⟩ := h; ⟨g, o, q, h.away k (fun i cs T f _ => hS i cs T f), r⟩
set_option maxHeartbeats 1000000 in
theorem of_at {base s g : Nat} {w : World} {o : Option Tk} {q : D.Ky → Qd} {lv : Int} {M : D.Sm} (hC0 : SC base w s g o q lv M) (k : D.Ky) : Calls Tryz.prog 73 #[.pointer (some ⟨s, 0, none⟩), .agg (kS.v k)] w fun e w' => e = .returned (.pointer (got k (Cr.Tr.lso o))) ∧ Below w.heap.size w w' := by
 have f0 := Shp.rd_new (S := kS) w w.heap.size 39 k rfl
 have b0 := below_alloc_ w (.cells (kS.v k) 39)
 have HO := Lib.hid (fun W => orEmpty_any s W)
 go_enter Tryz.func73, Tryz.ntmps73
 go_wp2_with fail
 obtain ⟨w0, hw0⟩ : ∃ w0, w.alloc (.cells (kS.v k) 39) = w0 := ⟨_, rfl⟩
 rw [hw0] at f0 b0
 rw [hw0]
 clear hw0
 have h2 := hC0.on b0
 clear hC0
 have b1 : Below w0.heap.size w0 w0.drew := (Below.refl _ _).drew
 refine wp_region_noPanic ?_
 refine wp_region_held_drew (S := (fun V => Below w0.heap.size w0 V)) (by kernel_rfl) b1 (fun _ => ?_)
 refine takeT 0 (some 8) ?v2 ?hy2 b1 ?rest2
 case hy2 => (intro o ho W hW; simp only [gT, gS, gZ, sI] at ho; subst ho; (try dsimp only at hW); go_simp; try rfl)
 try simp only [Act.put, iT, iZ, iS]
 refine takeT 5 (some 13) ?v3 ?hy3 b1 ?rest3
 case hy3 => (intro o ho W hW; simp only [gT, gS, gZ, sI] at ho; subst ho; (try dsimp only at hW); have f_ := Shp.rd_on f0 hW; go_simp; try rfl)
 try simp only [Act.put, iT, iZ, iS]
 refine nextS 1 (by kernel_rfl) (by rfl) (fun o ho K hK => ?_)
 simp only [gT, gS, gZ, sI] at ho; subst ho
 go_simp
 go_at_call 56
 refine (HO.out _).mono ?_
 rintro e w2 ⟨rfl, rfl⟩
 refine hK.out _ _ b1 (fun _ => ?_)
 clear hK K
 try simp only [Act.put, iT, iZ, iS]
 have c0 := (h2.on b1).blk.c 0
 simp only [List.getElem?_toArray, List.getElem?_cons_zero] at c0
 have hC := Lib.hid (h2.on b1)
 refine takeT 2 (some 10) ?v6 ?hy6 b1 ?rest6
 case hy6 => (intro o ho W hW; simp only [gT, gS, gZ, sI] at ho; subst ho; (try dsimp only at hW); go_simp; try rfl)
 try simp only [Act.put, iT, iZ, iS]
 refine takeT 3 (some 11) ?v7 ?hy7 b1 ?rest7
 case hy7 => (intro o ho W hW; simp only [gT, gS, gZ, sI] at ho; subst ho; (try dsimp only at hW); go_simp; try rfl)
 try simp only [Act.put, iT, iZ, iS]
 clear h2
 refine nextS 4 (by kernel_rfl) (by rfl) (fun o ho K hK => ?_)
 simp only [gT, gS, gZ, sI] at ho; subst ho
 go_simp
 refine hK.out _ _ b1 (fun _ => ?_)
 clear hK K
 try simp only [Act.put, iT, iZ, iS]
 refine nextS 6 (by kernel_rfl) (by rfl) (fun o ho K hK => ?_)
 simp only [gT, gS, gZ, sI] at ho; subst ho
 go_simp
 go_at_call 92
 refine (get_any g o k _ hC.out.tc.tr).mono ?_
 rintro e w4 ⟨rfl, b4⟩
 have b5 := below_up b1 b1.size b4
 refine hK.out _ _ b5 (fun _ => ?_)
 clear hK K
 try simp only [Act.put, iT, iZ, iS]
 refine takeT 7 (some 7) ?v12 ?hy12 b5 ?rest12
 case hy12 => (intro o ho W hW; simp only [gT, gS, gZ, sI] at ho; subst ho; (try dsimp only at hW); go_simp; try rfl)
 try simp only [Act.put, iT, iZ, iS]
 refine takeT 8 (some 15) ?v13 ?hy13 b5 ?rest13
 case hy13 => (intro o ho W hW; simp only [gT, gS, gZ, sI] at ho; subst ho; (try dsimp only at hW); go_simp; try rfl)
 try simp only [Act.put, iT, iZ, iS]
 refine takeT 9 (some 16) ?v14 ?hy14 b5 ?rest14
 case hy14 => (intro o ho W hW; simp only [gT, gS, gZ, sI] at ho; subst ho; (try dsimp only at hW); go_simp; try rfl)
 try simp only [Act.put, iT, iZ, iS]
 refine takeT 10 (some 5) ?v15 ?hy15 b5 ?rest15
 case hy15 => (intro o ho W hW; simp only [gT, gS, gZ, sI] at ho; subst ho; (try dsimp only at hW); go_simp; try rfl)
 try simp only [Act.put, iT, iZ, iS]
 refine takeT 11 (some 6) ?v16 ?hy16 b5 ?rest16
 case hy16 => (intro o ho W hW; simp only [gT, gS, gZ, sI] at ho; subst ho; (try dsimp only at hW); go_simp; try rfl)
 try simp only [Act.put, iT, iZ, iS]
 refine wpAnyH_done (by kernel_rfl) ?_ _
 refine NoPanic.normal ?_
 go_wp2
 go_ret
 exact ⟨rfl, below_up b0 b0.size b5⟩
set_option maxHeartbeats 8000000 in
theorem strim_any {base top s m d : Nat} {w : World} {M : D.Sm} {B : Option Addr} (hS : SMt base top w s M) (hl : M.last ≤ 1000) (k : D.Ky) (ps : List Nat) (hr : Row w B m (wds ps)) (hm : m ≤ 1000) (hso : SOk ps) (hb : base ≤ w.heap.size) :
  Calls Tryz.prog 125 #[.pointer (some ⟨s, 0, none⟩), .agg (kS.v k), .slice B m d] w fun e w' => e = .returned (.int .i64 (M.went k ps : Nat)) ∧ SMt base top w' s (M.trim k ps) ∧ Frt base top w w' := by
 obtain ⟨g, o, q, hC, ht1, ht2⟩ := hS
 have HT1 := Lib.hid ht1
 have HT2 := Lib.hid ht2
 clear ht1 ht2
 have f0 := Shp.rd_new (S := kS) w w.heap.size 39 k rfl
 have b0 := below_alloc_ w (.cells (kS.v k) 39)
 have B0 := Blk.new w 39 (kS.v k)
 obtain ⟨w0, hw0⟩ : ∃ w0, w.alloc (.cells (kS.v k) 39) = w0 := ⟨_, rfl⟩
 rw [hw0] at f0 b0 B0
 have HC := Lib.hid (hC.on b0)
 have HB := Lib.hid B0
 have CO := Lib.hid (of_at (hC.on b0) k)
 have HR := Lib.hid (hr.on b0)
 clear hC hr B0
 by_cases hin : k ∈ M.ks
 ·have e1 := HC.out.got_in hin
  rw [e1] at CO
  have CT : Hid (∀ W, Below w0.heap.size w0 W → Calls Tryz.prog 157 #[.pointer (some ⟨(q k).b, 0, none⟩), .slice B m d] W fun e w' => e = .returned (.int .i64 (((M.f k).length - (D.trm ps (M.f k)).length : Nat))) ∧ (∃ A' c', Cn base w' (q k).b A' c' (D.trm ps (M.f k))) ∧ (∃ q', SK base w' s g o q' (M.live : Nat) M.last M.ks (fup M.f k (D.trm ps (M.f k)))) ∧ Frt base top W w') := Lib.hid fun W hW => by
   have hcW := (HC.out.on hW).sk
   refine (trim_any (hcW.cn k hin) ps (HR.out.on hW) hm hso (by have := hW.size; have := b0.size; omega)).mono ?_
   rintro e w' ⟨he, A', c', hc, hO, hN⟩
   have hP : Putd base (q k).b (q k).A W (D.trm ps (M.f k)) w' := ⟨A', c', hc, Only.more hO fun i e => .inl e, fun i hi => .inr (hN i hi)⟩
   obtain ⟨h1, h2⟩ := hcW.putc hin hP
   exact ⟨he, ⟨A', c', hc⟩, h1, Only.more hO fun i e => by subst e; exact ⟨⟨(hcW.low hin).1, _, _, _, (hcW.cn k hin).blk.out, by decide⟩, HT2.out k hin⟩⟩
  have HWF := Lib.hid (D.Sm.trim_wf HC.out.wf k ps)
  have HLV : Hid ((M.trim k ps).live = M.live) := Lib.hid (D.Sm.trim_live HC.out.wf k ps)
  have HF : Hid (fup M.f k (D.trm ps (M.f k)) = (M.trim k ps).f) := Lib.hid (funext fun y => by
   show (if y = k then _ else _) = (if y = k then _ else _)
   by_cases e : y = k
   ·subst e; rfl
   ·rw [if_neg e, if_neg e])
  have HKS : Hid ((M.trim k ps).ks = if D.trm ps (M.f k) = [] then M.ks.filter (fun y => decide (y ≠ k)) else M.ks) := Lib.hid rfl
  have HNE : Hid (0 < (M.f k).length) := Lib.hid (List.length_pos_iff.2 ((HC.out.wf.mem k).1 hin))
  have HFK : Hid (Frt base top w w0) := Lib.hid (Frt.below_ b0)
  have HQ : Hid (∀ (W : World) (q' : D.Ky → Qd) (f' : D.Ky → List D.Vn), SK base W s g o q' (M.live : Nat) M.last M.ks f' → ∀ y ∈ M.ks, (q' y).b < top) := Lib.hid fun W q' f' hk y hy => by rw [SK.qb HC.out.sk hk y hy]; exact HT2.out y hy
  have hwe : M.went k ps = (M.f k).length - (D.trm ps (M.f k)).length := rfl
  rw [hwe]
  obtain ⟨n1, hn1⟩ : ∃ n1, (M.f k).length - (D.trm ps (M.f k)).length = n1 := ⟨_, rfl⟩
  have HN := Lib.hid hn1
  rw [hn1] at CT ⊢
  have fin : Hid (∀ (W : World) (q' : D.Ky → Qd), D.trm ps (M.f k) ≠ [] → SK base W s g o q' (M.live : Nat) M.last M.ks (fup M.f k (D.trm ps (M.f k))) → SMt base top W s (M.trim k ps)) := Lib.hid fun W q' hne hk => by
   refine ⟨g, o, q', ⟨?_, HWF.out⟩, HT1.out, fun y hy => HQ.out _ _ _ hk y (D.Sm.trim_sub M k ps y hy)⟩
   rw [HF.out] at hk
   rw [HLV.out, HKS.out, if_neg hne]
   exact hk
  clear hwe hn1 e1 hso
  by_cases hz : n1 = 0
  ·have hne : Hid (D.trm ps (M.f k) ≠ []) := Lib.hid fun e => by
    have h1 := HN.out; have h2 := HNE.out
    rw [e] at h1; simp only [List.length_nil] at h1; omega
   subst hz
   go_enter Tryz.func125, Tryz.ntmps125
   go_wp2_with fail
   try rw [hw0]
   clear hw0
   go_wp2_with (first
    | (go_at_call 73; (refine CO.out.mono ?_); rintro e w2 ⟨rfl, b2⟩)
    | (go_at_call 157; (refine (CT.out _ b2).mono ?_); rintro e w3 ⟨rfl, -, ⟨q', hk⟩, fr⟩))
   go_ret
   exact ⟨rfl, fin.out _ _ hne.out hk, (HFK.out.on b2).trans fr⟩
  ·by_cases hne : D.trm ps (M.f k) = []
   ·have HE := Lib.hid hne
    have HL : Hid ((D.trm ps (M.f k)).length = 0) := Lib.hid (by rw [hne]; rfl)
    clear hne
    go_enter Tryz.func125, Tryz.ntmps125
    go_wp2_with fail
    try rw [hw0]
    clear hw0
    go_upto_region 4 with (first
     | (go_at_call 73; (refine CO.out.mono ?_); rintro e w2 ⟨rfl, b2⟩)
     | (go_at_call 157; (refine (CT.out _ b2).mono ?_); rintro e w3 ⟨rfl, ⟨A', c', hc⟩, ⟨q', hk⟩, fr⟩; have CL := Lib.hid (len_anyh hc.al); have HK := Lib.hid hk; have FR := Lib.hid fr; have BX := Lib.hid (Frm.blk fr.frm (HB.out.on b2) (by decide)); rw [HL.out] at CL; clear hc hk fr)
     | (go_at_call 74; (with_reducible refine CL.out.mono ?_); rintro e w4 ⟨rfl, b4⟩))
    have HK4 := Lib.hid (HK.out.on b4)
    have FR4 : Hid (Frt base top w w4) := Lib.hid (((HFK.out.on b2).trans FR.out).on b4)
    have sk : Hid (∀ V, Below w4.heap.size w4 V → V.cell? ⟨s, 0, none⟩ = some (.pointer (some ⟨g, 0, none⟩)) ∧ kS.rd V ⟨w.heap.size, 0, none⟩ = some k) := Lib.hid fun V hV => by
     have c0 := (HK4.out.on hV).blk.c 0
     simp only [List.getElem?_toArray, List.getElem?_cons_zero] at c0
     exact ⟨c0, Shp.rd_blk ((BX.out.on b4).on hV)⟩
    have bd : Below w4.heap.size w4 w4.drew := (Below.refl _ _).drew
    have sd := sk.out _ bd
    refine wp_region_noPanic ?_
    refine wp_region_held_drew (S := (fun V => V.cell? ⟨s, 0, none⟩ = some (.pointer (some ⟨g, 0, none⟩)) ∧ kS.rd V ⟨w.heap.size, 0, none⟩ = some k)) (by kernel_rfl) sd (fun _ => ?_)
    refine takeT 0 (some 22) ?v19 ?hy19 sd ?rest19
    case hy19 => (intro o ho W hW; simp only [gT, gS, gZ, sI] at ho; subst ho; (try dsimp only at hW); go_simp; try rfl)
    try simp only [Act.put, iT, iZ, iS]
    refine takeT 1 (some 23) ?v20 ?hy20 sd ?rest20
    case hy20 => (intro o ho W hW; simp only [gT, gS, gZ, sI] at ho; subst ho; (try dsimp only at hW); go_simp; try rfl)
    try simp only [Act.put, iT, iZ, iS]
    refine takeT 2 (some 24) ?v21 ?hy21 sd ?rest21
    case hy21 => (intro o ho W hW; simp only [gT, gS, gZ, sI] at ho; subst ho; (try dsimp only at hW); go_simp; try rfl)
    try simp only [Act.put, iT, iZ, iS]
    refine takeT 3 (some 25) ?v22 ?hy22 sd ?rest22
    case hy22 => (intro o ho W hW; simp only [gT, gS, gZ, sI] at ho; subst ho; (try dsimp only at hW); obtain ⟨f1_, f2_⟩ := hW; go_simp; try rfl)
    try simp only [Act.put, iT, iZ, iS]
    refine takeT 4 (some 26) ?v23 ?hy23 sd ?rest23
    case hy23 => (intro o ho W hW; simp only [gT, gS, gZ, sI] at ho; subst ho; (try dsimp only at hW); obtain ⟨f1_, f2_⟩ := hW; go_simp; try rfl)
    try simp only [Act.put, iT, iZ, iS]
    refine nextS 5 (by kernel_rfl) (by rfl) (fun o ho K hK => ?_)
    simp only [gT, gS, gZ, sI] at ho; subst ho
    go_simp
    have b5 := below_up bd bd.size (below_alloc_ w4.drew (.cells (kS.v k) 39))
    refine hK.out _ _ (sk.out _ b5) (fun _ => ?_)
    clear hK K
    try simp only [Act.put, iT, iZ, iS]
    refine nextS 6 (by kernel_rfl) (by rfl) (fun o ho K hK => ?_)
    simp only [gT, gS, gZ, sI] at ho; subst ho
    go_simp
    go_at_call 158
    have HK5 := Lib.hid (HK4.out.on b5)
    refine (del_one g o k _ 1 _ HK5.out.tc (Shp.rd_new (S := kS) _ _ 39 k rfl) (fun hmem => ?_)).mono ?_
    ·obtain ⟨cs, T, hB, hT⟩ := (HK4.out.on bd).tc.ty _ hmem
     exact Nat.lt_irrefl _ hB.lt
    ·rintro e w6 ⟨rfl, o', hD⟩
     obtain ⟨h6, f6⟩ := SK.delk HK5.out k HT1.out hD
     have c6 := h6.blk.c 0
     simp only [List.getElem?_toArray, List.getElem?_cons_zero] at c6
     refine hK.out _ _ ⟨c6, Shp.rd_blk (Frm.blk f6.frm ((BX.out.on b4).on b5) (by decide))⟩ (fun _ => ?_)
     clear hK K
     try simp only [Act.put, iT, iZ, iS]
     refine wpAnyH_done (by kernel_rfl) ?_ _
     refine NoPanic.normal ?_
     go_wp2
     go_ret
     refine ⟨rfl, ⟨g, o', q', ⟨?_, HWF.out⟩, (fun i hi => ?_), fun y hy => HQ.out _ _ _ HK5.out y (D.Sm.trim_sub M k ps y hy)⟩, (FR4.out.on b5).trans f6⟩
     ·rw [HLV.out, HKS.out, if_pos HE.out, ← HF.out]
      exact h6
     ·rcases List.mem_cons.1 hi with rfl | hi
      ·exact HT1.out _ (by simp)
      ·exact HT1.out i (by simp [hD.old i hi])
   ·have HL : Hid ((D.trm ps (M.f k)).length ≠ 0) := Lib.hid fun e => hne (List.eq_nil_of_length_eq_zero e)
    have HE := Lib.hid hne
    clear hne
    obtain ⟨n2, hn2⟩ : ∃ n2, (D.trm ps (M.f k)).length = n2 := ⟨_, rfl⟩
    have h2 : ¬ (n2 : Int) = 0 := by have := HL.out; omega
    have HN2 := Lib.hid hn2
    clear hn2
    go_enter Tryz.func125, Tryz.ntmps125
    go_wp2_with fail
    try rw [hw0]
    clear hw0
    go_wp2_with (first
     | (go_at_call 73; (refine CO.out.mono ?_); rintro e w2 ⟨rfl, b2⟩)
     | (go_at_call 157; (refine (CT.out _ b2).mono ?_); rintro e w3 ⟨rfl, ⟨A', c', hc⟩, ⟨q', hk⟩, fr⟩; have CL := Lib.hid (len_anyh hc.al); have HK := Lib.hid hk; have FR := Lib.hid fr; rw [HN2.out] at CL; clear hc hk fr)
     | (go_at_call 74; (with_reducible refine CL.out.mono ?_); rintro e w4 ⟨rfl, b4⟩))
    go_ret
    exact ⟨rfl, fin.out _ _ HE.out (HK.out.on b4), ((HFK.out.on b2).trans FR.out).on b4⟩
 ·have e1 := HC.out.got_out hin
  rw [e1] at CO
  have e2 : Hid (M.trim k ps = M) := Lib.hid (D.Sm.trim_id HC.out.wf ps hin)
  have e3 : Hid (M.went k ps = 0) := Lib.hid (by unfold D.Sm.went; rw [HC.out.wf.none hin]; rfl)
  have CT := Lib.hid (fun W => ctrim_nil W B m d)
  clear e1
  rw [e2.out, e3.out]
  go_enter Tryz.func125, Tryz.ntmps125
  go_wp2_with fail
  try rw [hw0]
  clear hw0
  go_wp2_with (first
   | (go_at_call 73; (refine CO.out.mono ?_); rintro e w2 ⟨rfl, b2⟩)
   | (go_at_call 157; (with_reducible refine (CT.out _).mono ?_); rintro e w3 ⟨rfl, b3⟩))
  go_ret
  have b4 := below_up b2 b2.size b3
  exact ⟨rfl, ⟨g, o, q, HC.out.on b4, HT1.out, HT2.out⟩, Frt.below_ (below_up b0 b0.size b4)⟩
end Go.Proofs.YtjlaffgbmcpldaaGreatDoor
namespace Go.Proofs.YtjlaffgbmcpldaaGreatDoor.Pn.D
abbrev Ps := List (Option Nat)
def wd : Ps → Nat
 | [] => 0
 | o :: l => (if o.isSome then 1 else 0) + 2 * wd l
theorem wd_lt : ∀ l : Ps, wd l < 2 ^ l.length
 | [] => by simp [wd]
 | o :: l => by
  have := wd_lt l
  rw [wd, List.length_cons, Nat.pow_succ]
  split <;> omega
theorem wd_bit : ∀ (l : Ps) (i : Nat), (wd l).testBit i = (l.getD i none).isSome
 | [], i => by simp [wd]
 | o :: l, 0 => by
  rw [wd, Nat.testBit_zero]
  cases o <;> simp <;> omega
 | o :: l, i + 1 => by
  rw [wd, Nat.testBit_succ]
  have : ((if o.isSome then 1 else 0) + 2 * wd l) / 2 = wd l := by split <;> omega
  rw [this, wd_bit l i]
  simp
theorem wd_shift (l : Ps) (i : Nat) : wd l / 2 ^ i % 2 = if (l.getD i none).isSome then 1 else 0 := by
 have := wd_bit l i
 rw [Nat.testBit_eq_decide_div_mod_eq] at this
 split <;> rename_i h
 ·rw [h] at this; exact of_decide_eq_true this
 ·rw [Bool.not_eq_true] at h
  rw [h] at this
  have := of_decide_eq_false this
  omega
def fr : Ps → Nat
 | [] => 0
 | none :: _ => 0
 | some _ :: l => fr l + 1
def cn (l : Ps) (t : Nat) : Nat := l.count (some t)
theorem cn_pos {l : Ps} {t : Nat} : 0 < cn l t ↔ some t ∈ l := List.count_pos_iff
theorem nodup_len : ∀ {K : List Nat} {l : Ps}, K.Nodup → (∀ x ∈ K, some x ∈ l) → K.length ≤ l.length
 | [], l, _, _ => Nat.zero_le _
 | x :: K, l, hn, h => by
  have hx := h x (List.mem_cons_self ..)
  have hx' := (List.nodup_cons.1 hn).1
  have := nodup_len (K := K) (l := l.erase (some x)) (List.nodup_cons.1 hn).2 fun y hy => (List.mem_erase_of_ne (by intro e; injection e with e; subst e; exact hx' hy)).2 (h y (List.mem_cons_of_mem _ hy))
  rw [List.length_erase_of_mem hx] at this
  have hl : 0 < l.length := List.length_pos_of_mem hx
  simp; omega
end Go.Proofs.YtjlaffgbmcpldaaGreatDoor.Pn.D
namespace Go.Proofs.YtjlaffgbmcpldaaGreatDoor
namespace Pn
open Go.RowKit
theorem law_w : Maps.Keyed Tryz.prog 42 := Maps.int_keyed Tryz.underlying42
def kl (k : Nat) : Lit := .int .u64 (k : Nat)
theorem kl_is {k : Nat} (hk : k < 18446744073709551616) : keyOf Tryz.prog 42 (.int .u64 (k : Nat)) = some (kl k) := by
 have h1 : IntKind.u64.min = 0 := by rfl
 have h2 : IntKind.u64.max = 18446744073709551615 := by rfl
 have : (Lit.int .u64 (k : Nat)).wf = true := by simp [Lit.wf, h1, h2]; omega
 simp [keyOf, mapKey, Tryz.underlying42, kl, this]
theorem kl_inj {x y : Nat} (h : kl x = kl y) : x = y := by
 unfold kl at h
 injection h with _ h
 omega
theorem kl_key {x : Nat} (hx : x < 18446744073709551616) : WideAt.IsKeyLit (kl x) := law_w.key (kl_is hx)
theorem zero_int (u : World) : (zeroValue 3).run Tryz.prog u = .ok (.int .i64 0) u := by kernel_rfl
structure MpAt (w : World) (b : Nat) (K : List Nat) (f : Nat → Nat) : Prop where
 out : ∃ D0 : DataW Unit, w.ownsMap Tryz.prog 42 (plainElem Tryz.prog 3) b K.length D0 ∧ (∀ x, x < 18446744073709551616 → Maps.has D0 (kl x) = decide (x ∈ K)) ∧
  (∀ x, x < 18446744073709551616 → D0.atKey (kl x) (.lit (.int .i64 0)) = .lit (.int .i64 (f x : Nat))) ∧ Maps.size D0 = K.length
 nodup : K.Nodup
 lt : ∀ x ∈ K, x < 18446744073709551616
section
variable {w w' : World} {b n : Nat} {K : List Nat} {f : Nat → Nat} {D0 : DataW Unit}
theorem own_tight (h : w.ownsMap Tryz.prog 42 (plainElem Tryz.prog 3) b n D0) : w.ownsMap Tryz.prog 42 (plainElem Tryz.prog 3) b (Maps.size D0) D0 := by
 obtain ⟨es, clock, hb, F, hs, hD⟩ := h
 exact ⟨es, clock, hb, F, by rw [hD]; simp [Maps.size, length_sorted], hD⟩
theorem MpAt.lt_ (h : MpAt w b K f) : b < w.heap.size := by
 obtain ⟨D0, ho, _⟩ := h.out
 exact ho.lt
theorem MpAt.tow (h : MpAt w b K f) (hs : w'.heap[b]? = w.heap[b]?) : MpAt w' b K f := by
 obtain ⟨D0, ⟨es, clock, hb, r⟩, r'⟩ := h.out
 exact ⟨⟨D0, ⟨es, clock, hs.trans hb, r⟩, r'⟩, h.nodup, h.lt⟩
theorem MpAt.on (h : MpAt w b K f) (hb : Below w.heap.size w w') : MpAt w' b K f := h.tow (hb.block _ h.lt_)
theorem MpAt.no_cells (h : MpAt w b K f) {g : Nat} {t : TypeId} {cs : Array Value} (hg : Blk w g t cs) : g ≠ b := by
 rintro rfl
 obtain ⟨D, ⟨es, clock, hb, r⟩, r'⟩ := h.out
 rw [hg.out] at hb
 cases hb
theorem MpAt.same (h : MpAt w b K f) {f' : Nat → Nat} (hf : ∀ x, x < 18446744073709551616 → f' x = f x) : MpAt w b K f' := by
 obtain ⟨D0, h1, h2, h3, h4⟩ := h.out
 exact ⟨⟨D0, h1, h2, fun x hx => by rw [h3 x hx, hf x hx], h4⟩, h.nodup, h.lt⟩
theorem MpAt.look (h : MpAt w b K f) {x : Nat} (hx : x < 18446744073709551616) : (Instr.lookup 49 (.map (some b)) (.int .u64 (x : Nat)) false).run Tryz.prog w = .ok (.int .i64 (f x : Nat)) w := by
 obtain ⟨D0, ho, _, hc, _⟩ := h.out
 obtain ⟨c, hr, ha, _⟩ := ho.lookup_int law_w Tryz.underlying49 Tryz.underlying3 (zero_int w) (kl_is hx)
 rw [hc x hx] at ha
 injection ha with ha
 injection ha with _ ha
 rw [hr, ha]
theorem MpAt.put (h : MpAt w b K f) (hL : K.length ≤ 1000) {x v : Nat} (hx : x < 18446744073709551616) (hv : v ≤ 1000) (z : Int) (hz : z = v) : ∃ w', (Instr.mapUpdate 49 (.map (some b)) (.int .u64 (x : Nat)) (.int .i64 z)).run Tryz.prog w = .ok () w' ∧ MpAt w' b (if x ∈ K then K else x :: K) (fun y => if y = x then v else f y) ∧ w.grownBy w' (some b) := by
 subst hz
 obtain ⟨D0, ho, hh, hc, hs⟩ := h.out
 obtain ⟨w', hr, ho', hg⟩ := ho.update law_w Tryz.underlying49 (by simp only [maxLen]; omega) (kl_is hx) (plainElem_int (H := Unit) Tryz.underlying3 (WalkArith.wf_i64 (n := (v : Nat)) (by omega)))
 have hs' : Maps.size (D0.put (kl x) (.lit (.int .i64 (v : Nat)))) = (if x ∈ K then K else x :: K).length := by
  rw [Maps.size_put (ho.tidy law_w), hh x hx, hs]
  by_cases hxl : x ∈ K <;> simp [hxl]
 refine ⟨w', hr, ⟨⟨_, by rw [← hs']; exact own_tight ho', fun y hy => ?_, fun y hy => ?_, hs'⟩, ?_, ?_⟩, hg⟩
 ·by_cases e : y = x
  ·subst e
   rw [Maps.has_put_same ho.isMap (kl_key hy)]
   split <;> simp [*]
  ·rw [Maps.has_put_other (fun e' => e (kl_inj e')), hh y hy, decide_eq_decide]
   split <;> simp [e]
 ·by_cases e : y = x
  ·subst e
   rw [Maps.atKey_put_same ho.isMap (kl_key hx), if_pos rfl]
  ·rw [Maps.atKey_put_other (fun e' => e (kl_inj e')), if_neg e, hc y hy]
 ·split
  ·exact h.nodup
  ·rename_i hn
   exact List.nodup_cons.2 ⟨hn, h.nodup⟩
 ·split
  ·exact h.lt
  ·intro y hy
   rcases List.mem_cons.1 hy with rfl | hy
   ·exact hx
   ·exact h.lt y hy
theorem MpAt.drop (h : MpAt w b K f) {x : Nat} (hx : x < 18446744073709551616) (ty : TypeId) : ∃ w', (Builtin.delete_ #[49, 42] ty #[.map (some b), .int .u64 (x : Nat)]).run Tryz.prog w = .ok (.tuple #[]) w' ∧ MpAt w' b (K.erase x) (fun y => if y = x then 0 else f y) ∧ w.grownBy w' (some b) := by
 obtain ⟨D0, ho, hh, hc, hs⟩ := h.out
 obtain ⟨w', hr, ho', hg⟩ := ho.drop law_w Tryz.underlying49 (kl_is hx) ty
 have hs' : Maps.size (D0.del (kl x)) = (K.erase x).length := by
  have h1 := Maps.size_del (k := kl x) (ho.tidy law_w)
  rw [hh x hx, hs] at h1
  rw [List.length_erase]
  by_cases hxl : x ∈ K
  ·have := List.length_pos_of_mem hxl
   simp [hxl] at h1 ⊢
   omega
  ·simp [hxl] at h1 ⊢
   omega
 refine ⟨w', hr, ⟨⟨_, by rw [← hs']; exact own_tight ho', fun y hy => ?_, fun y hy => ?_, hs'⟩, h.nodup.erase _, fun y hy => h.lt y (List.mem_of_mem_erase hy)⟩, hg.grown⟩
 ·by_cases e : y = x
  ·subst e
   rw [Maps.has_del_same]
   symm
   rw [decide_eq_false_iff_not]
   intro hm
   exact (List.Nodup.mem_erase_iff h.nodup).1 hm |>.1 rfl
  ·rw [Maps.has_del_other (fun e' => e (kl_inj e')), hh y hy, decide_eq_decide]
   exact (List.mem_erase_of_ne e).symm
 ·by_cases e : y = x
  ·subst e
   rw [Maps.atKey_del_same, if_pos rfl]
   rfl
  ·rw [Maps.atKey_del_other (fun e' => e (kl_inj e')), if_neg e, hc y hy]
end
end Pn
end Go.Proofs.YtjlaffgbmcpldaaGreatDoor
