/-
  
-/
import Derived.Test.YtjlaffgbmcpldaaGreatDoorG24
import Derived.Test.YtjlaffgbmcpldaaGreatDoorG14
import Derived.Test.YtjlaffgbmcpldaaGreatDoorG21
set_option linter.unusedVariables false
set_option linter.unusedSimpArgs false
set_option maxRecDepth 100000
namespace Go.Proofs.YtjlaffgbmcpldaaGreatDoor
open Go.RowKit

theorem plc_last {k : D.Ky} {p : Addr} {l : List Tk} : (l = [] ∧ plc k p l = p) ∨ ∃ y ∈ l, plc k p l = ⟨y.ad, 1 + D.sd k y.bit, none⟩ := by
 rcases List.eq_nil_or_concat l with rfl | ⟨l', y, rfl⟩
 ·exact .inl ⟨rfl, rfl⟩
 ·refine .inr ⟨y, by simp, ?_⟩
  rw [List.concat_eq_append, plc_app]
theorem TR.free {w : World} {g : Nat} {o : Option Tk} (h : TR w g o) {k : D.Ky} {d : Nat} : w.frozen? (plc k ⟨g, 0, none⟩ (pth k d o)) = false := by
 rcases plc_last (k := k) (p := ⟨g, 0, none⟩) (l := pth k d o) with ⟨_, e⟩ | ⟨y, hy, e⟩
 ·rw [e]
  obtain ⟨n, hB⟩ := h.blk
  exact hB.f 0
 ·rw [e]
  obtain ⟨hN, _, _, t, _, hs⟩ := h.mem hy
  obtain ⟨cs, hB⟩ := hN.lt y.ad y.ad_mem
  exact hB.f _
theorem plc_blk {w : World} {g : Nat} {o : Option Tk} (h : TR w g o) {k : D.Ky} {d : Nat} : (plc k ⟨g, 0, none⟩ (pth k d o)).block ∈ g :: blo o := by
 rcases plc_last (k := k) (p := ⟨g, 0, none⟩) (l := pth k d o) with ⟨_, e⟩ | ⟨y, hy, e⟩
 ·rw [e]; simp
 ·rw [e]
  obtain ⟨hN, _, _, t, rfl, hs⟩ := h.mem hy
  exact List.mem_cons_of_mem _ (hs _ y.ad_mem)
theorem ls_ins {k : D.Ky} {v : Vl} {d a c : Nat} {t : Tk} (hw : t.wf) (hn : Cr.has k t.ls = false) (hd : Cr.par (t.near k).hd.1 k = d) (hl : d < 200) : (t.ins k v d a c).ls = Cr.put k v t.ls := by
 have hu : Cr.Up t.ls := Cr.Tr.sorted hw
 refine Cr.Up.eq (Cr.Tr.sorted (Cr.Tr.ins_wf hw hd hl)) (Cr.put_up hu) fun x => ?_
 rw [Cr.Tr.ins_mem, Cr.put_mem hu]
 constructor
 ·rintro (h | h)
  ·exact .inl h
  ·refine .inr ⟨h, fun e => ?_⟩
   have : Cr.has k t.ls = true := Cr.has_iff.2 ⟨x.2, by rw [← e]; exact h⟩
   rw [hn] at this; cases this
 ·rintro (h | ⟨h, _⟩)
  ·exact .inl h
  ·exact .inr h
theorem near_ne {k : D.Ky} {t : Tk} (hw : t.wf) (hn : Cr.has k t.ls = false) : Cr.par (t.near k).hd.1 k < 200 := by
 rw [Cr.par_lt]
 intro e
 have := Cr.has_iff.2 ((Cr.Tr.near_is hw).1 e)
 rw [hn] at this; cases this
theorem tr_ins {W : World} {g : Nat} {t : Tk} {k : D.Ky} {v : Vl} {n : Int} {d a c : Nat} (hT : TR W g (some t)) (hn : Cr.has k t.ls = false) (hd : Cr.par (t.near k).hd.1 k = d) (hB : Blk W g 177 #[.pointer (pt (some t)), .int .i64 n])
  (ha : a ∉ t.bl) (hc : c ∉ t.bl) (hac : a ≠ c) (hA : Blk W a nT (ndc 200 none none (k, v))) (hC : Blk W c nT (newc k d a (t.sub k d).ad)) (hz : t.ls.length < 1000) :
  TR (W.setCell (plc k ⟨g, 0, none⟩ (pth k d (some t))) (.pointer (some ⟨c, 0, none⟩))) g (some (t.ins k v d a c)) ∧
  Blk (W.setCell (plc k ⟨g, 0, none⟩ (pth k d (some t))) (.pointer (some ⟨c, 0, none⟩))) g 177 #[.pointer (pt (some (t.ins k v d a c))), .int .i64 n] := by
 have hw := hT.wf t rfl
 have hl : d < 200 := by rw [← hd]; exact near_ne hw hn
 have hg := hT.out t rfl
 have hN := hT.nd t rfl
 have hls := ls_ins (v := v) (a := a) (c := c) hw hn hd hl
 have key : Nd (W.setCell (plc k ⟨g, 0, none⟩ (pth k d (some t))) (.pointer (some ⟨c, 0, none⟩))) (t.ins k v d a c) ∧
   Blk (W.setCell (plc k ⟨g, 0, none⟩ (pth k d (some t))) (.pointer (some ⟨c, 0, none⟩))) g 177 #[.pointer (pt (some (t.ins k v d a c))), .int .i64 n] := by
  by_cases hb : t.bit < d
  ·have hin := plc_in (k := k) (d := d) (p := ⟨g, 0, none⟩) hb (by omega)
   refine ⟨ins_nd (by omega) hN hw (hT.ndp t rfl) hb ha hc hA hC, ?_⟩
   have : pt (some (t.ins k v d a c)) = pt (some t) := by simp only [pt, Option.map_some, ins_ad hb (by omega)]
   rw [this]
   exact ⟨(Below.heap_setCell W _ _ g (fun e => hg (by rw [e]; exact hin))).trans hB.out⟩
  ·have hp : pth k d (some t) = [] := path_out hb
   rw [hp, ins_mk hb]
   rw [sub_self hb] at hC
   show Nd (W.setCell ⟨g, 0, none⟩ _) _ ∧ Blk (W.setCell ⟨g, 0, none⟩ _) g _ _
   refine ⟨nd_mk (nd_set hN hg _) ⟨(Below.heap_setCell W _ _ a (blk_ne hA hB (by decide))).trans hA.out⟩ ⟨(Below.heap_setCell W _ _ c (blk_ne hC hB (by decide))).trans hC.out⟩, ?_⟩
   have := hB.put 0 (.pointer (some ⟨c, 0, none⟩))
   have e : (Cr.Tr.mk k v d a c t).ad = c := by unfold Cr.Tr.mk; split <;> rfl
   simp only [pt, Option.map_some, e]
   exact this
 refine ⟨⟨⟨n, key.2⟩, fun u e => ?_, fun u e => ?_, fun u e => ?_, ?_⟩, key.2⟩
 ·injection e with e; subst e; exact key.1
 ·injection e with e; subst e; exact Cr.Tr.ins_wf hw hd hl
 ·injection e with e; subst e
  refine (ins_bl t).nodup_iff.2 (List.nodup_cons.2 ⟨?_, List.nodup_cons.2 ⟨ha, hT.ndp t rfl⟩⟩)
  simp only [List.mem_cons, not_or]
  exact ⟨fun e => hac e.symm, hc⟩
 ·show (t.ins k v d a c).ls.length ≤ 1000
  rw [hls, Cr.put_new (Cr.Tr.sorted hw) hn]; omega
theorem tr_upd {W : World} {g : Nat} {t : Tk} {k : D.Ky} {u v : Vl} {n : Int} {a : Nat} (hT : TR W g (some t)) (hk : t.near k = .lf a k v) (hB : Blk W g 177 #[.pointer (pt (some t)), .int .i64 n]) :
  TR (W.setCell ⟨a, 28, none⟩ (.pointer u)) g (some (t.upd k u)) ∧ Blk (W.setCell ⟨a, 28, none⟩ (.pointer u)) g 177 #[.pointer (pt (some (t.upd k u))), .int .i64 n] ∧ (t.upd k u).ls = Cr.put k u t.ls ∧ (t.upd k u).bl = t.bl ∧ a ∈ t.bl := by
 have hw := hT.wf t rfl
 obtain ⟨h1, h2, h3, h4⟩ := upd_nd (u := u) (hT.nd t rfl) (hT.ndp t rfl) hk
 have hhas : Cr.has k t.ls = true := by
  have := Cr.Tr.near_mem k t
  rw [hk] at this
  exact Cr.has_iff.2 ⟨v, this⟩
 have hls : (t.upd k u).ls = Cr.put k u t.ls := by rw [Cr.Tr.upd_ls hw, Cr.put_old (Cr.Tr.sorted hw) hhas]
 have hg := hT.out t rfl
 have hbk : Blk (W.setCell ⟨a, 28, none⟩ (.pointer u)) g 177 #[.pointer (pt (some (t.upd k u))), .int .i64 n] := by
  have : pt (some (t.upd k u)) = pt (some t) := by simp only [pt, Option.map_some, h2]
  rw [this]
  exact ⟨(Below.heap_setCell W _ _ g (fun e => hg (by rw [e]; exact h4))).trans hB.out⟩
 refine ⟨⟨⟨n, hbk⟩, fun x e => ?_, fun x e => ?_, fun x e => ?_, ?_⟩, hbk, hls, h3, h4⟩
 ·injection e with e; subst e; exact h1
 ·injection e with e; subst e; exact Cr.Tr.upd_wf hw
 ·injection e with e; subst e; rw [h3]; exact hT.ndp t rfl
 ·show (t.upd k u).ls.length ≤ 1000
  rw [hls, Cr.put_old (Cr.Tr.sorted hw) hhas, List.length_map]; exact hT.sz
theorem tr_one {W : World} {g a : Nat} {k : D.Ky} {v : Vl} {n : Int} (hA : Blk W a nT (ndc 200 none none (k, v))) (hB : Blk W g 177 #[.pointer none, .int .i64 n]) :
  TR (W.setCell ⟨g, 0, none⟩ (.pointer (some ⟨a, 0, none⟩))) g (some (.lf a k v)) ∧ Blk (W.setCell ⟨g, 0, none⟩ (.pointer (some ⟨a, 0, none⟩))) g 177 #[.pointer (pt (some (.lf a k v))), .int .i64 n] := by
 have hb := hB.put 0 (.pointer (some ⟨a, 0, none⟩))
 refine ⟨⟨⟨n, hb⟩, fun x e => ?_, fun x e => ?_, fun x e => ?_, by simp [Cr.Tr.lso, Cr.Tr.ls]⟩, hb⟩
 ·injection e with e; subst e
  exact ⟨(Below.heap_setCell W _ _ a (blk_ne hA hB (by decide))).trans hA.out⟩
 ·injection e with e; subst e; exact trivial
 ·injection e with e; subst e; simp [Cr.Tr.bl]
theorem TR.count {W : World} {g : Nat} {o : Option Tk} (h : TR W g o) {n : Int} (hB : Blk W g 177 #[.pointer (pt o), .int .i64 n]) (m : Int) :
  TR (W.setCell ⟨g, 1, none⟩ (.int .i64 m)) g o ∧ Blk (W.setCell ⟨g, 1, none⟩ (.int .i64 m)) g 177 #[.pointer (pt o), .int .i64 m] := by
 have hb := hB.put 1 (.int .i64 m)
 exact ⟨⟨⟨m, hb⟩, fun t e => nd_set (h.nd t e) (h.out t e) _, h.wf, h.ndp, h.sz⟩, hb⟩
theorem TR.ov {w W : World} {g : Nat} {o : Option Tk} {n0 : Nat} {X : List Nat} (h : TR w g o) (hO : Ov n0 X w W) (hg : ∀ q ∈ g :: blo o, q < n0 ∧ q ∉ X) : TR W g o :=
 ⟨let ⟨n, hB⟩ := h.blk; ⟨n, ⟨(hO.block g (hg g (by simp)).1 (hg g (by simp)).2).trans hB.out⟩⟩, fun t e => hO.nd (h.nd t e) fun q hq => hg q (by subst e; simp [blo, hq]), h.wf, h.ndp, h.sz⟩
theorem TR.all_lt {w : World} {g : Nat} {o : Option Tk} (h : TR w g o) : ∀ q ∈ g :: blo o, q < w.heap.size := by
 intro q hq
 rcases List.mem_cons.1 hq with rfl | hq
 ·exact h.lt
 ·cases o with
  | none => cases hq
  | some t => obtain ⟨cs, hB⟩ := (h.nd t rfl).lt q hq; exact hB.lt
end Go.Proofs.YtjlaffgbmcpldaaGreatDoor
set_option linter.unusedVariables false
set_option linter.unusedSimpArgs false
set_option maxRecDepth 100000
namespace Go.Proofs.YtjlaffgbmcpldaaGreatDoor
open Go.RowKit
attribute [local go_sem ↓] Go.wp_at_zero Go.wp_at_succ ld_k lv_k st_k eq_k ne_k bd_k ld_b lv_b st_b eq_b ne_b bd_25 ld_r lv_r st_rk eq_rk ne_rk bd_r ld_p lv_p st_px bd_p Nm.ld_a Nm.ld_n Nm.st_a Nm.st_n Nm.eq_a Nm.eq_n Nm.ne_a Nm.ne_n Nm.lv_a Nm.lv_n ld_a ld_n st_a st_n eq_a eq_n ne_a ne_n lv_a lv_n ld_l lv_l st_l bd_l bd_n bs_k
attribute [local go_sem] run_ldk run_lvk run_stk run_eqk run_nek run_bdk_z run_ldb run_lvb run_stb run_eqb run_neb run_ldr run_lvr run_strk run_eqrk run_nerk run_bdr_z run_ldp run_lvp run_stpx Nm.run_ld_a Nm.run_ld_n Nm.run_st_n Nm.run_eq_a Nm.run_eq_n Nm.run_ne_a Nm.run_ne_n Nm.run_lv_a Nm.run_lv_n Nm.rd_new Nm.rd_old Nm.rd_drew Nm.rd_drewN run_ld_a run_ld_n run_sw_a run_sw_n run_eq_a run_eq_n run_ne_a run_ne_n run_lv_a run_lv_n st_z ne_z eq_z rd_new rd_old rd_drew rd_drewN Shp.rd_new Shp.rd_old Shp.rd_drew Shp.rd_drewN Shp.rd_set Shp.tn_new Shp.tn_old Shp.tn_drew Shp.tn_drewN tn_new tn_old tn_drew tn_drewN rd_set setRow_alloc run_stn3 run_stt15 run_lvl run_ldl run_stl run_bdl run_bdn run_bdn0 run_bsk Shp.rd_extk cell_ext
set_option maxHeartbeats 8000000 in
theorem add_none (g : Nat) (k : D.Ky) (v : Vl) (w : World) (hT : TC w g none) : Calls Tryz.prog 122 #[.pointer (some ⟨g, 0, none⟩), .agg (lS.v (k, v))] w fun e w' => (∃ u, e = .returned u) ∧ ∃ A, w.heap.size ≤ A ∧ TC w' g (some (.lf A k v)) ∧ Ov w.heap.size [g] w w' := by
 have hsz0 : (Cr.Tr.lso (none : Option Tk)).length < 1000 := by decide
 obtain ⟨o, ho⟩ : ∃ o : Option Tk, o = none := ⟨_, rfl⟩
 rw [← ho] at hT hsz0
 have hg := hT.tr.lt
 obtain ⟨w0, hw0⟩ : ∃ w0, w.alloc (.cells (lS.v (k, v)) 217) = w0 := ⟨_, rfl⟩
 have fl0 : lS.rd w0 ⟨w.heap.size, 0, none⟩ = some (k, v) := by rw [← hw0]; exact Shp.rd_new _ _ _ _ rfl
 have b0 : Below w.heap.size w w0 := by rw [← hw0]; exact below_alloc_ _ _
 have hz0 : w0.heap.size = w.heap.size + 1 := by rw [← hw0]; simp
 have hT0 := hT.on b0
 have hB0 := hT0.blk
 obtain ⟨n, hn⟩ : ∃ n, (Cr.Tr.lso o).length = n := ⟨_, rfl⟩
 have hsz : n < 1000 := by omega
 have hc0 := hT0.cnt
 rw [hn] at hB0 hc0
 have hf0 := hB0.f 1
 have i0 : (0 : Int) ≤ (n : Int) := by omega
 have i1 : (n : Int) < 1000 := by omega
 obtain ⟨w1, hw1⟩ : ∃ w1, w0.setCell ⟨g, 1, none⟩ (.int .i64 ((n : Int) + 1)) = w1 := ⟨_, rfl⟩
 obtain ⟨hT1, hB1⟩ := hT0.tr.count hB0 ((n : Int) + 1)
 have hO1 : Ov w.heap.size (g :: blo o) w w1 := by rw [← hw1]; exact ((Ov.refl _ _ _).on (Nat.le_refl _) b0).set (by simp) _
 have fl1 : lS.rd w1 ⟨w.heap.size, 0, none⟩ = some (k, v) := by rw [← hw1]; exact (Shp.rd_setCell _ _ _ _ (by simp; omega)).trans fl0
 have hz1 : w1.heap.size = w.heap.size + 1 := by rw [← hw1]; simp [World.setCell, hz0]
 rw [hw1] at hT1 hB1
 obtain ⟨w2, hw2⟩ : ∃ w2, w1.alloc (.cells (ndc 200 none none (k, v)) nT) = w2 := ⟨_, rfl⟩
 have b2 : Below w1.heap.size w1 w2 := by rw [← hw2]; exact below_alloc_ _ _
 have hO2 : Ov w.heap.size (g :: blo o) w w2 := hO1.on (Nat.le_refl _) b2
 have hA2 : Blk w2 w1.heap.size nT (ndc 200 none none (k, v)) := by rw [← hw2]; exact Blk.new _ _ _
 have hT2 := hT1.on b2
 have hB2 := hB1.on b2
 have fl2 := Shp.rd_on fl1 b2
 have fk2 : kS.rd w2 ⟨w.heap.size, 0, none⟩ = some k := (lf_of fl2).1
 have hz2 : w2.heap.size = w.heap.size + 2 := by rw [← hw2]; simp [hz1]
 rw [hz1] at hA2
 have CP := Lib.hid (place200 g o k w2 hT2)
 unfold nT at hw2
 subst ho
 have hs2 : subo k 200 (none : Option Tk) = none := rfl
 clear fl0 hT0 hf0 hT1 hB1 b0 b2
 have hf0 := hB0.f 1
 go_enter Tryz.func122, Tryz.ntmps122
 go_wp2_with fail
 try rw [hw0]
 clear hw0
 go_wp2_with fail
 try rw [hw1]
 clear hw1 hB0 hc0
 go_wp2_with fail
 try rw [hw2]
 clear hw2
 go_wp2_with (go_at_call 105; (with_reducible refine CP.out.mono ?_); rintro e w3 ⟨rfl, b3⟩; have hc : w3.cell? (plc k ⟨g, 0, none⟩ (pth k 200 none)) = some (.pointer none) := (hT2.on b3).sub_cell (Nat.le_refl _); have hB3 := hB2.on b3; have hc4 := (hT2.on b3).root; have hf4 := hB3.f 0)
 obtain ⟨h1, h2⟩ := tr_one (hA2.on b3) hB3
 refine bodyPost_ret (results_none rfl _ _ _) rfl ?_
 refine ⟨⟨_, rfl⟩, w.heap.size + 1, by omega, TC.of h1 (by rw [show ((Cr.Tr.lso (some (Cr.Tr.lf (w.heap.size + 1) k v) : Option Tk)).length : Int) = (n : Int) + 1 by rw [← hn]; rfl]; exact h2), ?_⟩
 exact ((hO2.on (Nat.le_refl _) b3).set (by simp) _)
set_option maxHeartbeats 16000000 in
theorem add_some (g : Nat) (t : Tk) (k : D.Ky) (v : Vl) (w : World) (hT : TC w g (some t)) (hnot : Cr.has k t.ls = false) (hsz0 : t.ls.length < 1000) : Calls Tryz.prog 122 #[.pointer (some ⟨g, 0, none⟩), .agg (lS.v (k, v))] w fun e w' => (∃ u, e = .returned u) ∧ ∃ A C r, w.heap.size ≤ A ∧ w.heap.size ≤ C ∧ TC w' g (some (t.ins k v r A C)) ∧ (t.ins k v r A C).ls = Cr.put k v t.ls ∧ Ov w.heap.size (g :: t.bl) w w' := by
 have hsz1 : (Cr.Tr.lso (some t)).length < 1000 := hsz0
 obtain ⟨o, ho⟩ : ∃ o : Option Tk, o = some t := ⟨_, rfl⟩
 rw [← ho] at hT hsz1
 have hg := hT.tr.lt
 obtain ⟨w0, hw0⟩ : ∃ w0, w.alloc (.cells (lS.v (k, v)) 217) = w0 := ⟨_, rfl⟩
 have fl0 : lS.rd w0 ⟨w.heap.size, 0, none⟩ = some (k, v) := by rw [← hw0]; exact Shp.rd_new _ _ _ _ rfl
 have b0 : Below w.heap.size w w0 := by rw [← hw0]; exact below_alloc_ _ _
 have hz0 : w0.heap.size = w.heap.size + 1 := by rw [← hw0]; simp
 have hT0 := hT.on b0
 have hB0 := hT0.blk
 obtain ⟨n, hn⟩ : ∃ n, (Cr.Tr.lso o).length = n := ⟨_, rfl⟩
 have hsz : n < 1000 := by omega
 have hc0 := hT0.cnt
 rw [hn] at hB0 hc0
 have hf0 := hB0.f 1
 have i0 : (0 : Int) ≤ (n : Int) := by omega
 have i1 : (n : Int) < 1000 := by omega
 obtain ⟨w1, hw1⟩ : ∃ w1, w0.setCell ⟨g, 1, none⟩ (.int .i64 ((n : Int) + 1)) = w1 := ⟨_, rfl⟩
 obtain ⟨hT1, hB1⟩ := hT0.tr.count hB0 ((n : Int) + 1)
 have hO1 : Ov w.heap.size (g :: blo o) w w1 := by rw [← hw1]; exact ((Ov.refl _ _ _).on (Nat.le_refl _) b0).set (by simp) _
 have fl1 : lS.rd w1 ⟨w.heap.size, 0, none⟩ = some (k, v) := by rw [← hw1]; exact (Shp.rd_setCell _ _ _ _ (by simp; omega)).trans fl0
 have hz1 : w1.heap.size = w.heap.size + 1 := by rw [← hw1]; simp [World.setCell, hz0]
 rw [hw1] at hT1 hB1
 obtain ⟨w2, hw2⟩ : ∃ w2, w1.alloc (.cells (ndc 200 none none (k, v)) nT) = w2 := ⟨_, rfl⟩
 have b2 : Below w1.heap.size w1 w2 := by rw [← hw2]; exact below_alloc_ _ _
 have hO2 : Ov w.heap.size (g :: blo o) w w2 := hO1.on (Nat.le_refl _) b2
 have hA2 : Blk w2 w1.heap.size nT (ndc 200 none none (k, v)) := by rw [← hw2]; exact Blk.new _ _ _
 have hT2 := hT1.on b2
 have hB2 := hB1.on b2
 have fl2 := Shp.rd_on fl1 b2
 have fk2 : kS.rd w2 ⟨w.heap.size, 0, none⟩ = some k := (lf_of fl2).1
 have hz2 : w2.heap.size = w.heap.size + 2 := by rw [← hw2]; simp [hz1]
 rw [hz1] at hA2
 have CP := Lib.hid (place200 g o k w2 hT2)
 unfold nT at hw2
 subst ho
 obtain ⟨a, x, u, hnr⟩ := Cr.Tr.near_lf k t
 have hs2 := subo_near hT.tr k
 rw [hnr] at hs2
 have hpar0 := near_ne (hT.tr.wf t rfl) hnot
 have CPa := Lib.hid (fun w => parting_any x k w)
 obtain ⟨r, hr⟩ : ∃ r, Cr.par x k = r := ⟨_, rfl⟩
 have hpar : Cr.par (t.near k).hd.1 k = r := by rw [hnr]; exact hr
 have hrl : r < 200 := by rw [← hpar]; exact hpar0
 rw [hr] at CPa
 have HN := Lib.hid (fun w1 (hT1 : TR w1 g (some t)) => show NF w1 a 200 none none (x, u) from by have := (nd_near hT1 k).nf; rw [hnr] at this; exact this)
 have CB := Lib.hid (fun w => kbytes_any k w)
 have CS := Lib.hid (fun w => side_any k r hrl w)
 clear fl0 hT0 hf0 hT1 hB1 b0 b2 hr hpar0
 have hf0 := hB0.f 1
 go_enter Tryz.func122, Tryz.ntmps122
 go_wp2_with fail
 try rw [hw0]
 clear hw0
 go_wp2_with fail
 try rw [hw1]
 clear hw1 hB0 hc0
 go_wp2_with fail
 try rw [hw2]
 clear hw2
 go_wp2_with (go_at_call 105; (with_reducible refine CP.out.mono ?_); rintro e w3 ⟨rfl, b3⟩; have hc : w3.cell? (plc k ⟨g, 0, none⟩ (pth k 200 (some t))) = some (.pointer (some ⟨a, 0, none⟩)) := by { have := (hT2.on b3).sub_cell (k := k) (Nat.le_refl 200); rw [hs2] at this; exact this })
 have hT3 := hT2.on b3
 have hB3 := hB2.on b3
 have hA3 := hA2.on b3
 have f3 := Shp.rd_on fk2 b3
 have k3 := (HN.out _ hT3).key
 have hO3 := hO2.on (Nat.le_refl _) b3
 have hz3 : w.heap.size + 2 ≤ w3.heap.size := by have := b3.size; omega
 clear hT2 hB2 hA2 fk2 fl2 fl1 hO1 hO2 b3 hc CP HN
 go_cut [6] from 31 (fun s6 wx => ∃ c : Nat, s6 = .pointer (some ⟨c, 0, none⟩) ∧ w3.heap.size ≤ c ∧ Blk wx c nT (ndc r none none (D.zK, none)) ∧ Below w3.heap.size w3 wx)
 case first =>
  refine wp_region_noPanic ?_
  have sd3 : Below w3.heap.size w3 w3.drew := (Below.refl _ _).drew
  refine wp_region_held_drew (S := fun V => Below w3.heap.size w3 V) (by kernel_rfl) sd3 (fun _ => ?_)
  refine takeT 0 (some 31) ?vc0 ?hyc0 sd3 ?restc0
  case hyc0 => (intro o ho W hW; simp only [gT, gS, gZ, sI] at ho; subst ho; (try dsimp only at hW); go_simp; try rfl)
  try simp only [Act.put, iT, iZ, iS]
  refine takeT 1 (some 32) ?vc1 ?hyc1 sd3 ?restc1
  case hyc1 => (intro o ho W hW; simp only [gT, gS, gZ, sI] at ho; subst ho; (try dsimp only at hW); go_simp; try rfl)
  try simp only [Act.put, iT, iZ, iS]
  refine takeT 2 (some 33) ?vc2 ?hyc2 sd3 ?restc2
  case hyc2 => (intro o ho W hW; simp only [gT, gS, gZ, sI] at ho; subst ho; (try dsimp only at hW); go_simp; try rfl)
  try simp only [Act.put, iT, iZ, iS]
  refine takeT 3 (some 34) ?vc3 ?hyc3 sd3 ?restc3
  case hyc3 => (intro o ho W hW; simp only [gT, gS, gZ, sI] at ho; subst ho; (try dsimp only at hW); go_simp; try rfl)
  try simp only [Act.put, iT, iZ, iS]
  refine takeT 4 (some 35) ?vc4 ?hyc4 sd3 ?restc4
  case hyc4 => (intro o ho W hW; simp only [gT, gS, gZ, sI] at ho; subst ho; (try dsimp only at hW); have g1 := Shp.rd_on k3 hW; go_simp; try rfl)
  try simp only [Act.put, iT, iZ, iS]
  refine takeT 5 (some 36) ?vc5 ?hyc5 sd3 ?restc5
  case hyc5 => (intro o ho W hW; simp only [gT, gS, gZ, sI] at ho; subst ho; (try dsimp only at hW); go_simp; try rfl)
  try simp only [Act.put, iT, iZ, iS]
  refine takeT 6 (some 37) ?vc6 ?hyc6 sd3 ?restc6
  case hyc6 => (intro o ho W hW; simp only [gT, gS, gZ, sI] at ho; subst ho; (try dsimp only at hW); have g2 := Shp.rd_on f3 hW; go_simp; try rfl)
  try simp only [Act.put, iT, iZ, iS]
  refine nextS 7 (by kernel_rfl) (by rfl) (fun o ho K hK => ?_)
  simp only [gT, gS, gZ, sI] at ho; subst ho
  go_simp
  (go_at_call 130; (with_reducible refine (CPa.out _).mono ?_); rintro e w4 ⟨rfl, b4⟩)
  have s4 : Below w3.heap.size w3 w4 := below_up sd3 sd3.size b4
  refine hK.out _ _ s4 (fun _ => ?_)
  clear hK K
  try simp only [Act.put, iT, iZ, iS]
  refine takeT 8 (some 39) ?vc8 ?hyc8 s4 ?restc8
  case hyc8 => (intro o ho W hW; simp only [gT, gS, gZ, sI] at ho; subst ho; (try dsimp only at hW); go_simp; try rfl)
  try simp only [Act.put, iT, iZ, iS]
  refine nextS 9 (by kernel_rfl) (by rfl) (fun o ho K hK => ?_)
  simp only [gT, gS, gZ, sI] at ho; subst ho
  go_simp
  have s5 : Below w3.heap.size w3 (w4.alloc (.cells (ndc (r : Nat) none none (D.zK, none)) 243)) := s4.alloc s4.size _
  refine hK.out _ _ s5 (fun _ => ?_)
  clear hK K
  try simp only [Act.put, iT, iZ, iS]
  refine takeT 10 (some 6) ?vc10 ?hyc10 s5 ?restc10
  case hyc10 => (intro o ho W hW; simp only [gT, gS, gZ, sI] at ho; subst ho; (try dsimp only at hW); go_simp; try rfl)
  try simp only [Act.put, iT, iZ, iS]
  refine wpAnyH_done (by kernel_rfl) ?_ _
  refine NoPanic.normal ?_
  go_wp2_with fail
  go_meet
  exact ⟨_, rfl, s4.size, Blk.new _ _ _, s5⟩
 case rest =>
  obtain ⟨c, rfl, hcz, BC, b5⟩ := hcut
  have hT5 := hT3.on b5
  have hB5 := hB3.on b5
  have hA5 := hA3.on b5
  have f5 := Shp.rd_on f3 b5
  have hO5 := hO3.on (by omega) b5
  have cb := (nf_of BC).bit
  have lc := BC.lt
  have lf5 := Shp.rd_lt f5
  have hz5 : w.heap.size + 2 ≤ wc.heap.size := by have := b5.size; omega
  have hq9 : ∀ q ∈ g :: blo (some t), q ∉ [c] := by
   intro q hq
   have := hT3.all_lt q hq
   simp only [List.mem_singleton]
   omega
  have CQ := Lib.hid (fun q => place_any g (some t) k r (by omega) (ext wc q) (hT5.on (ext_below wc q)))
  have hpb : (plc k ⟨g, 0, none⟩ (pth k r (some t))).block ∈ g :: t.bl := plc_blk hT5
  clear hT3 hB3 hA3 f3 hO3 b5 CPa k3
  obtain ⟨p, ep⟩ : ∃ p, plc k ⟨g, 0, none⟩ (pth k r (some t)) = p := ⟨_, rfl⟩
  rw [ep] at CQ hpb
  obtain ⟨s, es⟩ : ∃ s, (t.sub k r).ad = s := ⟨_, rfl⟩
  have hsd2 : (Cr.Bits.bt k r = true ∧ D.sd k r = 1) ∨ (Cr.Bits.bt k r = false ∧ D.sd k r = 0) := by
   unfold D.sd
   cases Cr.Bits.bt k r
   ·exact .inr ⟨rfl, rfl⟩
   ·exact .inl ⟨rfl, rfl⟩
  rcases hsd2 with ⟨hbt, hs1⟩ | ⟨hbt, hs1⟩
  all_goals
   rw [hs1] at CS
   go_wp2_with fail
   refine wp_region_ext (by kernel_rfl) (by kernel_rfl) ?_
   repeat (go_big_quiet_step (first
    | (go_at_call 105; with_reducible exact calls_ext (CQ.out _))
    | (go_at_call 131; with_reducible exact calls_ext (CB.out _))
    | (go_at_call 132; with_reducible exact calls_ext (CS.out _))))
   refine wpQuiet_nil ?_
   intro w7 hw7
   have b7 := ext_to hw7
   clear hw7
   have hT7 := hT5.on b7
   have hB7 := hB5.on b7
   have hA7 := hA5.on b7
   have BC := BC.on b7
   have hO7 := hO5.on (by omega) b7
   have hz7 : w.heap.size + 2 ≤ w7.heap.size := by have := b7.size; omega
   have hc7 : w7.cell? p = some (.pointer (some ⟨s, 0, none⟩)) := by
    rw [← ep, ← es]
    exact hT7.sub_cell (by omega)
   have lp := World.block_lt_of_cell? w7 p hc7
   have np := hq9 p.block hpb
   have hAn : w.heap.size + 1 ∉ t.bl := fun h => by have := hT.tr.all_lt _ (List.mem_cons_of_mem g h); omega
   have hCn : c ∉ t.bl := fun h => hq9 c (List.mem_cons_of_mem g h) (by simp)
   go_wp2_with fail
  ·skip
   refine wp_region_noPanic ?_
   have sd7 : Ov w7.heap.size [c] w7 w7.drew := (Ov.refl _ _ _).on (Nat.le_refl _) (Below.refl _ _).drew
   refine wp_region_held_drew (S := fun V => Ov w7.heap.size [c] w7 V) (by kernel_rfl) sd7 (fun _ => ?_)
   have BC0 : Blk w7.drew c nT (ndc r none none (D.zK, none)) := BC.drew
   obtain ⟨wd, hwd⟩ : ∃ wd, w7.drew = wd := ⟨_, rfl⟩
   rw [hwd] at sd7 BC0
   rw [hwd]
   clear hwd
   refine takeT 0 (some 57) ?vd10 ?hyd10 sd7 ?restd10
   case hyd10 => (intro o ho W hW; simp only [gT, gS, gZ, sI] at ho; subst ho; (try dsimp only at hW); go_simp; try rfl)
   try simp only [Act.put, iT, iZ, iS]
   refine takeT 1 (some 58) ?vd11 ?hyd11 sd7 ?restd11
   case hyd11 => (intro o ho W hW; simp only [gT, gS, gZ, sI] at ho; subst ho; (try dsimp only at hW); go_simp; try rfl)
   try simp only [Act.put, iT, iZ, iS]
   refine takeT 2 (some 59) ?vd12 ?hyd12 sd7 ?restd12
   case hyd12 => (intro o ho W hW; simp only [gT, gS, gZ, sI] at ho; subst ho; (try dsimp only at hW); go_simp; try rfl)
   try simp only [Act.put, iT, iZ, iS]
   refine takeT 3 (some 60) ?vd13 ?hyd13 sd7 ?restd13
   case hyd13 => (intro o ho W hW; simp only [gT, gS, gZ, sI] at ho; subst ho; (try dsimp only at hW); go_simp; try rfl)
   try simp only [Act.put, iT, iZ, iS]
   refine takeT 4 (some 61) (.int .i64 0) ?hyd14 sd7 ?restd14
   case hyd14 => (intro o ho W hW; simp only [gT, gS, gZ, sI] at ho; subst ho; (try dsimp only at hW); go_simp; try rfl)
   try simp only [Act.put, iT, iZ, iS]
   refine takeT 5 (some 62) ?vd15 ?hyd15 sd7 ?restd15
   case hyd15 => (intro o ho W hW; simp only [gT, gS, gZ, sI] at ho; subst ho; (try dsimp only at hW); go_simp; try rfl)
   try simp only [Act.put, iT, iZ, iS]
   refine takeT 6 (some 63) ?vd16 ?hyd16 sd7 ?restd16
   case hyd16 => (intro o ho W hW; simp only [gT, gS, gZ, sI] at ho; subst ho; (try dsimp only at hW); go_simp; try rfl)
   try simp only [Act.put, iT, iZ, iS]
   refine takeT 7 (some 64) ?vd17 ?hyd17 sd7 ?restd17
   case hyd17 => (intro o ho W hW; simp only [gT, gS, gZ, sI] at ho; subst ho; (try dsimp only at hW); go_simp; try rfl)
   try simp only [Act.put, iT, iZ, iS]
   refine takeT 8 (some 65) ?vd18 ?hyd18 sd7 ?restd18
   case hyd18 => (intro o ho W hW; simp only [gT, gS, gZ, sI] at ho; subst ho; (try dsimp only at hW); have g1 := (World.cell?_of_block (hW.block p.block lp np)).trans hc7; go_simp; try rfl)
   try simp only [Act.put, iT, iZ, iS]
   refine takeT 9 (some 66) ?vd19 ?hyd19 sd7 ?restd19
   case hyd19 => (intro o ho W hW; simp only [gT, gS, gZ, sI] at ho; subst ho; (try dsimp only at hW); go_simp; try rfl)
   try simp only [Act.put, iT, iZ, iS]
   refine takeT 10 (some 67) ?vd110 ?hyd110 sd7 ?restd110
   case hyd110 => (intro o ho W hW; simp only [gT, gS, gZ, sI] at ho; subst ho; (try dsimp only at hW); go_simp; try rfl)
   try simp only [Act.put, iT, iZ, iS]
   refine takeT 11 (some 68) (.pointer (some ⟨c, 2, none⟩)) ?hyd111 sd7 ?restd111
   case hyd111 => (intro o ho W hW; simp only [gT, gS, gZ, sI] at ho; subst ho; (try dsimp only at hW); go_simp; try rfl)
   try simp only [Act.put, iT, iZ, iS]
   refine takeT 13 (some 69) ?vd113 ?hyd113 sd7 ?restd113
   case hyd113 => (intro o ho W hW; simp only [gT, gS, gZ, sI] at ho; subst ho; (try dsimp only at hW); go_simp; try rfl)
   try simp only [Act.put, iT, iZ, iS]
   refine takeT 14 (some 70) ?vd114 ?hyd114 sd7 ?restd114
   case hyd114 => (intro o ho W hW; simp only [gT, gS, gZ, sI] at ho; subst ho; (try dsimp only at hW); go_simp; try rfl)
   try simp only [Act.put, iT, iZ, iS]
   have hcA := (nf_of BC0).hi
   have hfA := BC0.f 2
   have hcB0 := (nf_of BC0).lo
   have hfB0 := BC0.f 1
   refine nextS 12 (by kernel_rfl) (by rfl) (fun o ho K hK => ?_)
   simp only [gT, gS, gZ, sI] at ho; subst ho
   go_simp
   have BC1 := BC0.put 2 (.pointer (some ⟨w.heap.size + 1, 0, none⟩))
   rw [ndc_hi] at BC1
   have s8 := sd7.set (a := ⟨c, 2, none⟩) (by simp) (.pointer (some ⟨w.heap.size + 1, 0, none⟩))
   refine hK.out _ _ s8 (fun _ => ?_)
   clear hK K
   try simp only [Act.put, iT, iZ, iS]
   refine takeT 15 (some 71) (.pointer (some ⟨c, 1, none⟩)) ?hyd115 s8 ?restd115
   case hyd115 => (intro o ho W hW; simp only [gT, gS, gZ, sI] at ho; subst ho; (try dsimp only at hW); go_simp; try rfl)
   try simp only [Act.put, iT, iZ, iS]
   have hcB := (nf_of BC1).lo
   have hfB := BC1.f 1
   refine nextS 16 (by kernel_rfl) (by rfl) (fun o ho K hK => ?_)
   simp only [gT, gS, gZ, sI] at ho; subst ho
   go_simp
   have BC2 := BC1.put 1 (.pointer (some ⟨s, 0, none⟩))
   rw [ndc_lo] at BC2
   have s9 := s8.set (a := ⟨c, 1, none⟩) (by simp) (.pointer (some ⟨s, 0, none⟩))
   refine hK.out _ _ s9 (fun _ => ?_)
   clear hK K
   try simp only [Act.put, iT, iZ, iS]
   refine wpAnyH_done (by kernel_rfl) ?_ _
   refine NoPanic.normal ?_
   obtain ⟨w9, hw9⟩ : ∃ w9, (wd.setCell ⟨c, 2, none⟩ (.pointer (some ⟨w.heap.size + 1, 0, none⟩))).setCell ⟨c, 1, none⟩ (.pointer (some ⟨s, 0, none⟩)) = w9 := ⟨_, rfl⟩
   rw [hw9] at BC2 s9
   try rw [hw9]
   clear hw9 BC1 BC0 hcA hfA hcB hfB hcB0 hfB0 s8
   have hT9 : TR w9 g (some t) := hT7.ov s9 (fun q hq => ⟨hT7.all_lt q hq, hq9 q hq⟩)
   have hB9 : Blk w9 g 177 #[.pointer (pt (some t)), .int .i64 ((n : Int) + 1)] := ⟨(s9.block g hT7.lt (hq9 g (by simp))).trans hB7.out⟩
   have hA9 : Blk w9 (w.heap.size + 1) nT (ndc 200 none none (k, v)) := ⟨(s9.block _ hA7.lt (by simp; omega)).trans hA7.out⟩
   have hcp := (World.cell?_of_block (s9.block p.block lp np)).trans hc7
   have hfp : w9.frozen? p = false := by rw [← ep]; exact hT9.free
   have hC9 : Blk w9 c nT (newc k r (w.heap.size + 1) (t.sub k r).ad) := by
    rw [es]
    unfold newc
    rw [if_pos hbt]
    exact BC2
   obtain ⟨t1, t2⟩ := tr_ins hT9 hnot hpar hB9 hAn hCn (by omega) hA9 hC9 hsz0
   rw [ep] at t1 t2
   have hls := ls_ins (v := v) (a := w.heap.size + 1) (c := c) (hT9.wf t rfl) hnot hpar hrl
   have hlen : ((Cr.Tr.lso (some (t.ins k v r (w.heap.size + 1) c))).length : Int) = (n : Int) + 1 := by
    show ((t.ins k v r (w.heap.size + 1) c).ls.length : Int) = _
    rw [hls, Cr.put_new (Cr.Tr.sorted (hT9.wf t rfl)) hnot, ← hn]
    rfl
   have hF : Ov w.heap.size (g :: t.bl) w (w9.setCell p (.pointer (some ⟨c, 0, none⟩))) := ((hO7.trans ⟨s9.os, s9.tape, s9.output, s9.size, fun q h1 h2 => s9.block q (by omega) (by simp; omega)⟩)).set hpb _
   clear s9 hc7 hT7 hA7
   go_wp2
   go_end0
   exact ⟨⟨_, rfl⟩, w.heap.size + 1, c, r, by omega, by omega, TC.of t1 (by rw [hlen]; exact t2), hls, hF⟩
  ·skip
   refine wp_region_noPanic ?_
   have sd7 : Ov w7.heap.size [c] w7 w7.drew := (Ov.refl _ _ _).on (Nat.le_refl _) (Below.refl _ _).drew
   refine wp_region_held_drew (S := fun V => Ov w7.heap.size [c] w7 V) (by kernel_rfl) sd7 (fun _ => ?_)
   have BC0 : Blk w7.drew c nT (ndc r none none (D.zK, none)) := BC.drew
   obtain ⟨wd, hwd⟩ : ∃ wd, w7.drew = wd := ⟨_, rfl⟩
   rw [hwd] at sd7 BC0
   rw [hwd]
   clear hwd
   refine takeT 0 (some 57) ?vd00 ?hyd00 sd7 ?restd00
   case hyd00 => (intro o ho W hW; simp only [gT, gS, gZ, sI] at ho; subst ho; (try dsimp only at hW); go_simp; try rfl)
   try simp only [Act.put, iT, iZ, iS]
   refine takeT 1 (some 58) ?vd01 ?hyd01 sd7 ?restd01
   case hyd01 => (intro o ho W hW; simp only [gT, gS, gZ, sI] at ho; subst ho; (try dsimp only at hW); go_simp; try rfl)
   try simp only [Act.put, iT, iZ, iS]
   refine takeT 2 (some 59) ?vd02 ?hyd02 sd7 ?restd02
   case hyd02 => (intro o ho W hW; simp only [gT, gS, gZ, sI] at ho; subst ho; (try dsimp only at hW); go_simp; try rfl)
   try simp only [Act.put, iT, iZ, iS]
   refine takeT 3 (some 60) ?vd03 ?hyd03 sd7 ?restd03
   case hyd03 => (intro o ho W hW; simp only [gT, gS, gZ, sI] at ho; subst ho; (try dsimp only at hW); go_simp; try rfl)
   try simp only [Act.put, iT, iZ, iS]
   refine takeT 4 (some 61) (.int .i64 1) ?hyd04 sd7 ?restd04
   case hyd04 => (intro o ho W hW; simp only [gT, gS, gZ, sI] at ho; subst ho; (try dsimp only at hW); go_simp; try rfl)
   try simp only [Act.put, iT, iZ, iS]
   refine takeT 5 (some 62) ?vd05 ?hyd05 sd7 ?restd05
   case hyd05 => (intro o ho W hW; simp only [gT, gS, gZ, sI] at ho; subst ho; (try dsimp only at hW); go_simp; try rfl)
   try simp only [Act.put, iT, iZ, iS]
   refine takeT 6 (some 63) ?vd06 ?hyd06 sd7 ?restd06
   case hyd06 => (intro o ho W hW; simp only [gT, gS, gZ, sI] at ho; subst ho; (try dsimp only at hW); go_simp; try rfl)
   try simp only [Act.put, iT, iZ, iS]
   refine takeT 7 (some 64) ?vd07 ?hyd07 sd7 ?restd07
   case hyd07 => (intro o ho W hW; simp only [gT, gS, gZ, sI] at ho; subst ho; (try dsimp only at hW); go_simp; try rfl)
   try simp only [Act.put, iT, iZ, iS]
   refine takeT 8 (some 65) ?vd08 ?hyd08 sd7 ?restd08
   case hyd08 => (intro o ho W hW; simp only [gT, gS, gZ, sI] at ho; subst ho; (try dsimp only at hW); have g1 := (World.cell?_of_block (hW.block p.block lp np)).trans hc7; go_simp; try rfl)
   try simp only [Act.put, iT, iZ, iS]
   refine takeT 9 (some 66) ?vd09 ?hyd09 sd7 ?restd09
   case hyd09 => (intro o ho W hW; simp only [gT, gS, gZ, sI] at ho; subst ho; (try dsimp only at hW); go_simp; try rfl)
   try simp only [Act.put, iT, iZ, iS]
   refine takeT 10 (some 67) ?vd010 ?hyd010 sd7 ?restd010
   case hyd010 => (intro o ho W hW; simp only [gT, gS, gZ, sI] at ho; subst ho; (try dsimp only at hW); go_simp; try rfl)
   try simp only [Act.put, iT, iZ, iS]
   refine takeT 11 (some 68) (.pointer (some ⟨c, 1, none⟩)) ?hyd011 sd7 ?restd011
   case hyd011 => (intro o ho W hW; simp only [gT, gS, gZ, sI] at ho; subst ho; (try dsimp only at hW); go_simp; try rfl)
   try simp only [Act.put, iT, iZ, iS]
   refine takeT 13 (some 69) ?vd013 ?hyd013 sd7 ?restd013
   case hyd013 => (intro o ho W hW; simp only [gT, gS, gZ, sI] at ho; subst ho; (try dsimp only at hW); go_simp; try rfl)
   try simp only [Act.put, iT, iZ, iS]
   refine takeT 14 (some 70) ?vd014 ?hyd014 sd7 ?restd014
   case hyd014 => (intro o ho W hW; simp only [gT, gS, gZ, sI] at ho; subst ho; (try dsimp only at hW); go_simp; try rfl)
   try simp only [Act.put, iT, iZ, iS]
   have hcA := (nf_of BC0).lo
   have hfA := BC0.f 1
   have hcB0 := (nf_of BC0).hi
   have hfB0 := BC0.f 2
   refine nextS 12 (by kernel_rfl) (by rfl) (fun o ho K hK => ?_)
   simp only [gT, gS, gZ, sI] at ho; subst ho
   go_simp
   have BC1 := BC0.put 1 (.pointer (some ⟨w.heap.size + 1, 0, none⟩))
   rw [ndc_lo] at BC1
   have s8 := sd7.set (a := ⟨c, 1, none⟩) (by simp) (.pointer (some ⟨w.heap.size + 1, 0, none⟩))
   refine hK.out _ _ s8 (fun _ => ?_)
   clear hK K
   try simp only [Act.put, iT, iZ, iS]
   refine takeT 15 (some 71) (.pointer (some ⟨c, 2, none⟩)) ?hyd015 s8 ?restd015
   case hyd015 => (intro o ho W hW; simp only [gT, gS, gZ, sI] at ho; subst ho; (try dsimp only at hW); go_simp; try rfl)
   try simp only [Act.put, iT, iZ, iS]
   have hcB := (nf_of BC1).hi
   have hfB := BC1.f 2
   refine nextS 16 (by kernel_rfl) (by rfl) (fun o ho K hK => ?_)
   simp only [gT, gS, gZ, sI] at ho; subst ho
   go_simp
   have BC2 := BC1.put 2 (.pointer (some ⟨s, 0, none⟩))
   rw [ndc_hi] at BC2
   have s9 := s8.set (a := ⟨c, 2, none⟩) (by simp) (.pointer (some ⟨s, 0, none⟩))
   refine hK.out _ _ s9 (fun _ => ?_)
   clear hK K
   try simp only [Act.put, iT, iZ, iS]
   refine wpAnyH_done (by kernel_rfl) ?_ _
   refine NoPanic.normal ?_
   obtain ⟨w9, hw9⟩ : ∃ w9, (wd.setCell ⟨c, 1, none⟩ (.pointer (some ⟨w.heap.size + 1, 0, none⟩))).setCell ⟨c, 2, none⟩ (.pointer (some ⟨s, 0, none⟩)) = w9 := ⟨_, rfl⟩
   rw [hw9] at BC2 s9
   try rw [hw9]
   clear hw9 BC1 BC0 hcA hfA hcB hfB hcB0 hfB0 s8
   have hT9 : TR w9 g (some t) := hT7.ov s9 (fun q hq => ⟨hT7.all_lt q hq, hq9 q hq⟩)
   have hB9 : Blk w9 g 177 #[.pointer (pt (some t)), .int .i64 ((n : Int) + 1)] := ⟨(s9.block g hT7.lt (hq9 g (by simp))).trans hB7.out⟩
   have hA9 : Blk w9 (w.heap.size + 1) nT (ndc 200 none none (k, v)) := ⟨(s9.block _ hA7.lt (by simp; omega)).trans hA7.out⟩
   have hcp := (World.cell?_of_block (s9.block p.block lp np)).trans hc7
   have hfp : w9.frozen? p = false := by rw [← ep]; exact hT9.free
   have hC9 : Blk w9 c nT (newc k r (w.heap.size + 1) (t.sub k r).ad) := by
    rw [es]
    unfold newc
    rw [if_neg (by rw [hbt]; decide)]
    exact BC2
   obtain ⟨t1, t2⟩ := tr_ins hT9 hnot hpar hB9 hAn hCn (by omega) hA9 hC9 hsz0
   rw [ep] at t1 t2
   have hls := ls_ins (v := v) (a := w.heap.size + 1) (c := c) (hT9.wf t rfl) hnot hpar hrl
   have hlen : ((Cr.Tr.lso (some (t.ins k v r (w.heap.size + 1) c))).length : Int) = (n : Int) + 1 := by
    show ((t.ins k v r (w.heap.size + 1) c).ls.length : Int) = _
    rw [hls, Cr.put_new (Cr.Tr.sorted (hT9.wf t rfl)) hnot, ← hn]
    rfl
   have hF : Ov w.heap.size (g :: t.bl) w (w9.setCell p (.pointer (some ⟨c, 0, none⟩))) := ((hO7.trans ⟨s9.os, s9.tape, s9.output, s9.size, fun q h1 h2 => s9.block q (by omega) (by simp; omega)⟩)).set hpb _
   clear s9 hc7 hT7 hA7
   go_wp2
   go_end0
   exact ⟨⟨_, rfl⟩, w.heap.size + 1, c, r, by omega, by omega, TC.of t1 (by rw [hlen]; exact t2), hls, hF⟩
structure PutC (w : World) (g : Nat) (o : Option Tk) (k : D.Ky) (v : Vl) (w' : World) (o' : Option Tk) : Prop where
 tc : TC w' g o'
 ls : Cr.Tr.lso o' = Cr.put k v (Cr.Tr.lso o)
 ov : Ov w.heap.size (g :: blo o) w w'
 old : ∀ q ∈ blo o', q ∈ blo o ∨ w.heap.size ≤ q
theorem tc_upd {W : World} {g : Nat} {t : Tk} {k : D.Ky} {u v : Vl} {a : Nat} (hT : TC W g (some t)) (hk : t.near k = .lf a k v) : PutC W g (some t) k u (W.setCell ⟨a, 28, none⟩ (.pointer u)) (some (t.upd k u)) := by
 obtain ⟨h1, h2, h3, h4, h5⟩ := tr_upd (u := u) hT.tr hk hT.blk
 have hl : (Cr.Tr.lso (some (t.upd k u))).length = (Cr.Tr.lso (some t)).length := by
  show (t.upd k u).ls.length = t.ls.length
  rw [Cr.Tr.upd_ls (hT.tr.wf t rfl), List.length_map]
 refine ⟨TC.of h1 (by rw [hl]; exact h2), h3, (Ov.refl _ _ _).set (by simp [blo, h5]) _, fun q hq => .inl (by simp only [blo] at hq ⊢; rwa [h4] at hq)⟩
set_option maxHeartbeats 4000000 in
theorem put_any (g : Nat) (o : Option Tk) (k : D.Ky) (v : Vl) (w : World) (hT : TC w g o) (hsz : (Cr.Tr.lso o).length < 1000) : Calls Tryz.prog 93 #[.pointer (some ⟨g, 0, none⟩), .agg (kS.v k), .pointer v] w fun e w' => e = .returned (.bool (!Cr.has k (Cr.Tr.lso o))) ∧ ∃ o', PutC w g o k v w' o' := by
 obtain ⟨w0, hw0⟩ : ∃ w0, w.alloc (.cells (kS.v k) 39) = w0 := ⟨_, rfl⟩
 have f0 : kS.rd w0 ⟨w.heap.size, 0, none⟩ = some k := by rw [← hw0]; exact Shp.rd_new _ _ _ _ rfl
 have b0 : Below w.heap.size w w0 := by rw [← hw0]; exact below_alloc_ _ _
 have hT0 := hT.on b0
 have CH := Lib.hid (held_any g o k w0 hT0.tr)
 rcases hld_has hT.tr k with ⟨h1, h2⟩ | ⟨t, a, u, rfl, hn, h2, h3, hm⟩
 ·rw [h2] at CH
  rw [h1]
  have CA : ∀ w1, TC w1 g o → Calls Tryz.prog 122 #[.pointer (some ⟨g, 0, none⟩), .agg (lS.v (k, v))] w1 fun e w' => ∃ x, e = .returned x ∧ ∃ o', PutC w1 g o k v w' o' := by
   intro w1 hT1
   cases o with
   | none =>
    refine (add_none g k v w1 hT1).mono ?_
    rintro e w' ⟨⟨x, rfl⟩, A, hA, hT2, hO⟩
    refine ⟨x, rfl, _, hT2, rfl, hO, fun q hq => .inr ?_⟩
    have : q = A := by simpa [blo, Cr.Tr.bl] using hq
    omega
   | some t =>
    refine (add_some g t k v w1 hT1 h1 hsz).mono ?_
    rintro e w' ⟨⟨x, rfl⟩, A, C, r, hA, hC, hT2, hls, hO⟩
    refine ⟨x, rfl, _, hT2, hls, hO, fun q hq => ?_⟩
    have := (ins_bl t).mem_iff.1 hq
    simp only [List.mem_cons] at this
    rcases this with rfl | rfl | h
    ·exact .inr hC
    ·exact .inr hA
    ·exact .inl h
  have CA := Lib.hid CA
  clear h1 h2 hT hsz
  go_enter Tryz.func93, Tryz.ntmps93
  go_wp2_with fail
  try rw [hw0]
  clear hw0
  go_wp2_with (first
   | (go_at_call 121; (with_reducible refine CH.out.mono ?_); rintro e w1 ⟨rfl, b1⟩; have f1 := Shp.rd_on f0 b1; have hT1 := hT0.on b1; have z1 := below_up b0 b0.size b1)
   | (go_at_call 122; (with_reducible refine (CA.out _ hT1).mono ?_); rintro e w2 ⟨x, rfl, o', hP⟩; have HP := Lib.hid hP; clear hP))
  go_ret
  have hP := HP.out
  exact ⟨rfl, o', hP.tc, hP.ls, ⟨hP.ov.os.trans z1.os, hP.ov.tape.trans z1.tape, hP.ov.output.trans z1.output, Nat.le_trans z1.size hP.ov.size, fun q h1 h2 => (hP.ov.block q (Nat.lt_of_lt_of_le h1 z1.size) h2).trans (z1.block q h1)⟩, fun q hq => (hP.old q hq).imp id fun h => Nat.le_trans z1.size h⟩
 ·rw [h2] at CH
  rw [h3]
  have HN := Lib.hid hn
  clear h3 h2 hT hm hsz hn
  go_enter Tryz.func93, Tryz.ntmps93
  go_wp2_with fail
  try rw [hw0]
  clear hw0
  go_wp2_with (go_at_call 121; (with_reducible refine CH.out.mono ?_); rintro e w1 ⟨rfl, b1⟩; have z1 := below_up b0 b0.size b1; have hT1 := hT0.on b1; have nf := lf_nf hT1.tr HN.out; have c1 := nf.thing; have hf1 : w1.frozen? ⟨a, 28, none⟩ = false := by { have := nd_near hT1.tr k; rw [HN.out] at this; exact Blk.f this 28 })
  go_ret
  have hP := tc_upd (u := v) hT1 HN.out
  exact ⟨rfl, _, hP.tc, hP.ls, ⟨hP.ov.os.trans z1.os, hP.ov.tape.trans z1.tape, hP.ov.output.trans z1.output, Nat.le_trans z1.size hP.ov.size, fun q h1 h2 => (hP.ov.block q (Nat.lt_of_lt_of_le h1 z1.size) h2).trans (z1.block q h1)⟩, fun q hq => (hP.old q hq).imp id fun h => Nat.le_trans z1.size h⟩
end Go.Proofs.YtjlaffgbmcpldaaGreatDoor
set_option linter.unusedVariables false
set_option linter.unusedSimpArgs false
set_option maxRecDepth 100000
namespace Go.Proofs.YtjlaffgbmcpldaaGreatDoor
open Go.RowKit

abbrev sT : TypeId := 129
abbrev tT : TypeId := 177
abbrev cT : TypeId := 189
abbrev vT : TypeId := 194
theorem Ow.low {T : TypeId} {sz b b' n c : Nat} {w : World} {A : Option Addr} {xs : List Value} (h : Ow T sz b w A n c xs) (hb : b' ≤ b) : Ow T sz b' w A n c xs := by
 refine ⟨⟨h.row.1, ?_⟩, Nat.le_trans hb h.base⟩
 rcases h.row.2 with hn | ⟨g, cap, cur, e, hg, r⟩
 ·exact .inl hn
 ·exact .inr ⟨g, cap, cur, e, Nat.le_trans hb hg, r⟩
theorem ow_srow {α : Type} {S : Shp α} {l : List α} {T : TypeId} {base n c : Nat} {A : Option Addr} {W : World} (h : Ow T S.n base W A n c (S.rcs l)) : Shp.Row S W A n l := Shp.Own.to_row (S := S) (base := base) (e := T) (c := c) ⟨h.row, h.base⟩
def sts : List TypeId := [sT, tT, nT, cT, vT]
def Sty (w : World) (i : Nat) : Prop := ∃ cs T f, w.heap[i]? = some (Obj.cells cs T f) ∧ T ∈ sts
def Frm (base : Nat) (w w' : World) : Prop := Only (fun i => base ≤ i ∧ Sty w i) w w'
theorem Frm.self (base : Nat) (w : World) : Frm base w w := Only.self _ _
theorem Frm.on {base : Nat} {w w1 w2 : World} (h : Frm base w w1) (hb : Below w1.heap.size w1 w2) : Frm base w w2 := Only.on h hb
theorem Frm.off {base : Nat} {w w1 w2 : World} (hb : Below w.heap.size w w1) (h : Frm base w1 w2) : Frm base w w2 :=
 (only_below (S := fun i => base ≤ i ∧ Sty w i) hb).trans h fun i ⟨h1, cs, T, f, h2, h3⟩ => by
  by_cases hi : i < w.heap.size
  ·exact .inl ⟨h1, cs, T, f, (hb.block i hi).symm.trans h2, h3⟩
  ·exact .inr (by omega)
theorem Frm.below_ {base : Nat} {w w1 : World} (hb : Below w.heap.size w w1) : Frm base w w1 := only_below hb
theorem Frm.trans {base : Nat} {w w1 w2 : World} (h : Frm base w w1) (k : Frm base w1 w2) : Frm base w w2 :=
 Only.trans (S := fun i => base ≤ i ∧ Sty w i) h k fun i ⟨h1, cs, T, f, h2, h3⟩ => by
  by_cases hi : i < w.heap.size
  ·by_cases hS : base ≤ i ∧ Sty w i
   ·exact .inl hS
   ·exact .inl ⟨h1, cs, T, f, (h.block i hi hS).symm.trans h2, h3⟩
  ·exact .inr (by omega)
theorem Frm.below {base : Nat} {w w' : World} (h : Frm base w w') (hb : base ≤ w.heap.size) : Below base w w' := Only.below h hb fun i hi => hi.1
theorem Frm.size {base : Nat} {w w' : World} (h : Frm base w w') : w.heap.size ≤ w'.heap.size := Only.size h
theorem Frm.blk {base g : Nat} {T : TypeId} {cs : Array Value} {w w' : World} (h : Frm base w w') (hB : Blk w g T cs) (hT : T ∉ sts) : Blk w' g T cs :=
 hB.only h fun ⟨_, cs', T', f, h2, h3⟩ => by
  have := h2.symm.trans hB.out
  injection this with this
  injection this with _ e
  subst e
  exact hT h3
theorem Frm.ow {base b n c sz : Nat} {T : TypeId} {A : Option Addr} {xs : List Value} {w w' : World} (h : Frm base w w') (ho : Ow T sz b w A n c xs) (hT : T ∉ sts) : Ow T sz b w' A n c xs :=
 ho.kept h.size fun q hq => h.block q (ho.lt q hq).2 fun ⟨_, cs', T', f, h2, h3⟩ => by
  obtain ⟨cs, e⟩ := ow_block ho (own_at hq)
  have := h2.symm.trans e
  injection this with this
  injection this with _ e
  subst e
  exact hT h3
structure Qd where
 b : Nat
 A : Option Addr
 c : Nat
structure SK (base : Nat) (w : World) (s g : Nat) (o : Option Tk) (q : D.Ky → Qd) (lv : Int) (last : Nat) (ks : List D.Ky) (f : D.Ky → List D.Vn) : Prop where
 blk : Blk w s sT #[.pointer (some ⟨g, 0, none⟩), .int .u64 (last : Nat), .int .i64 lv]
 tc : TC w g o
 ls : Cr.Tr.lso o = ks.map fun k => (k, some ⟨(q k).b, 0, none⟩)
 cn : ∀ k ∈ ks, Cn base w (q k).b (q k).A (q k).c (f k)
 ap : ∀ k ∈ ks, ∀ x ∈ ks, k ≠ x → (q k).b ≠ (q x).b ∧ ∀ i, at_ (q k).A i → ¬ at_ (q x).A i
 bs : base ≤ s
 bg : ∀ i ∈ g :: blo o, base ≤ i
structure SC (base : Nat) (w : World) (s g : Nat) (o : Option Tk) (q : D.Ky → Qd) (lv : Int) (M : D.Sm) : Prop where
 sk : SK base w s g o q lv M.last M.ks M.f
 wf : M.wf
def SX (base : Nat) (w : World) (s : Nat) (lv : Int) (M : D.Sm) : Prop := ∃ g o q, SC base w s g o q lv M
def SM (base : Nat) (w : World) (s : Nat) (M : D.Sm) : Prop := ∃ g o q, SC base w s g o q (M.live : Nat) M
section
variable {base s g : Nat} {w w' : World} {o : Option Tk} {q : D.Ky → Qd} {lv : Int} {last : Nat} {ks : List D.Ky} {f : D.Ky → List D.Vn} {M : D.Sm}
theorem SK.on (h : SK base w s g o q lv last ks f) (hb : Below w.heap.size w w') : SK base w' s g o q lv last ks f :=
 ⟨h.blk.on hb, h.tc.on hb, h.ls, fun k hk => (h.cn k hk).on hb, h.ap, h.bs, h.bg⟩
theorem SC.on (h : SC base w s g o q lv M) (hb : Below w.heap.size w w') : SC base w' s g o q lv M := ⟨h.sk.on hb, h.wf⟩
theorem SC.blk (h : SC base w s g o q lv M) : Blk w s sT #[.pointer (some ⟨g, 0, none⟩), .int .u64 (M.last : Nat), .int .i64 lv] := h.sk.blk
theorem SC.tc (h : SC base w s g o q lv M) : TC w g o := h.sk.tc
theorem SC.ls (h : SC base w s g o q lv M) : Cr.Tr.lso o = M.ks.map fun k => (k, some ⟨(q k).b, 0, none⟩) := h.sk.ls
theorem SC.cn (h : SC base w s g o q lv M) : ∀ k ∈ M.ks, Cn base w (q k).b (q k).A (q k).c (M.f k) := h.sk.cn
theorem SM.on (h : SM base w s M) (hb : Below w.heap.size w w') : SM base w' s M := let ⟨g, o, q, h⟩ := h; ⟨g, o, q, h.on hb⟩
theorem SM.wf (h : SM base w s M) : M.wf := let ⟨g, o, q, h⟩ := h; SC.wf h
theorem SX.on (h : SX base w s lv M) (hb : Below w.heap.size w w') : SX base w' s lv M := let ⟨g, o, q, h⟩ := h; ⟨g, o, q, h.on hb⟩
theorem SK.bn (h : SK base w s g o q lv last ks f) : base ≤ w.heap.size := Nat.le_of_lt (Nat.lt_of_le_of_lt h.bs h.blk.lt)
theorem SC.has (h : SC base w s g o q lv M) (k : D.Ky) : Cr.has k (Cr.Tr.lso o) = decide (k ∈ M.ks) := by
 rw [h.ls, Cr.has, List.any_map, Bool.eq_iff_iff]
 simp
theorem SC.got_in (h : SC base w s g o q lv M) {k : D.Ky} (hk : k ∈ M.ks) : got k (Cr.Tr.lso o) = some ⟨(q k).b, 0, none⟩ := by
 unfold got
 rw [Cr.get_some (up_of h.tc.tr) (v := some ⟨(q k).b, 0, none⟩) (by rw [h.ls]; exact List.mem_map.2 ⟨k, hk, rfl⟩)]
 rfl
theorem SC.got_out (h : SC base w s g o q lv M) {k : D.Ky} (hk : k ∉ M.ks) : got k (Cr.Tr.lso o) = none := by
 unfold got
 rw [Cr.get_none (by rw [h.has, decide_eq_false hk])]
 rfl
theorem SC.al (h : SC base w s g o q lv M) (hl : M.last ≤ 1000) (k : D.Ky) : ∃ A n c, Al w (got k (Cr.Tr.lso o)) A n c (M.f k) := by
 by_cases hk : k ∈ M.ks
 ·rw [h.got_in hk]
  exact ⟨_, _, _, (h.cn k hk).al⟩
 ·rw [h.got_out hk, h.wf.none hk]
  exact ⟨_, _, _, Al.nil w⟩
theorem SC.vw (h : SC base w s g o q lv M) (k : D.Ky) : ∀ v ∈ M.f k, v.wf := fun v hv => (h.wf.vw k v hv).1
end
theorem ty_ne {w : World} {g i : Nat} {T : TypeId} {cs ds : Array Value} {U : TypeId} {f : Nat × Nat} (h : Blk w g T cs) (k : w.heap[i]? = some (Obj.cells ds U f)) (hne : T ≠ U) : g ≠ i := fun e => by
 subst e
 have := h.out.symm.trans k
 injection this with this
 injection this with _ e2
 exact hne e2
theorem TC.kept {w w' : World} {g : Nat} {o : Option Tk} (h : TC w g o) (hk : ∀ i ∈ g :: blo o, w'.heap[i]? = w.heap[i]?) : TC w' g o := by
 have hB : Blk w' g tT #[.pointer (pt o), .int .i64 ((Cr.Tr.lso o).length : Nat)] := ⟨(hk g (by simp)).trans h.blk.out⟩
 exact TC.of ⟨⟨_, hB⟩, fun t e => (h.tr.nd t e).kept fun i hi => hk i (by subst e; simp [blo, hi]), h.tr.wf, h.tr.ndp, h.tr.sz⟩ hB
theorem TC.ty {w : World} {g : Nat} {o : Option Tk} (h : TC w g o) : ∀ i ∈ g :: blo o, ∃ cs T, Blk w i T cs ∧ (T = tT ∨ T = nT) := by
 intro i hi
 rcases List.mem_cons.1 hi with rfl | hi
 ·exact ⟨_, _, h.blk, .inl rfl⟩
 ·cases o with
  | none => cases hi
  | some t => obtain ⟨cs, hB⟩ := (h.tr.nd t rfl).lt i hi; exact ⟨cs, _, hB, .inr rfl⟩
def xcells (x : D.Wt) : List Value := bys x.k.l ++ .bool x.d :: rcellsh x.r
theorem xcells_inj {x y : D.Wt} (h : xcells x = xcells y) : x = y := by
 obtain ⟨k, d, r⟩ := x
 obtain ⟨k', d', r'⟩ := y
 have := List.append_inj h (by simp [bys_len, D.Ky.len])
 obtain rfl := D.Ky.eq (bys_inj this.1)
 have h2 := this.2
 simp only [List.cons.injEq, Value.bool.injEq] at h2
 obtain ⟨rfl, h2⟩ := h2
 rw [rcells_injh h2]
def xS : Shp D.Wt := ⟨xcells, 35, by decide, fun x => by simp [xcells, bys_len, x.k.len, rcellsh], xcells_inj, fun x u hu => by
 rcases List.mem_append.1 hu with hu | hu
 ·exact bys_one _ u hu
 ·rcases List.mem_cons.1 hu with rfl | hu
  ·rfl
  ·exact rSh.one x.r u hu⟩
abbrev Ent := D.Ky × D.Rc
def ecells (x : Ent) : List Value := bys x.1.l ++ rcellsh x.2
theorem ecells_inj {x y : Ent} (h : ecells x = ecells y) : x = y := by
 obtain ⟨k, r⟩ := x
 obtain ⟨k', r'⟩ := y
 have := List.append_inj h (by simp [bys_len, D.Ky.len])
 obtain rfl := D.Ky.eq (bys_inj this.1)
 exact congrArg _ (rcells_injh this.2)
def eS : Shp Ent := ⟨ecells, 34, by decide, fun x => by simp [ecells, bys_len, x.1.len, rcellsh], ecells_inj, fun x u hu => by
 rcases List.mem_append.1 hu with hu | hu
 ·exact bys_one _ u hu
 ·exact rSh.one x.2 u hu⟩
theorem xf {w : World} {g o : Nat} {x : D.Wt} (h : xS.rd w ⟨g, o, none⟩ = some x) : kS.rd w ⟨g, o, none⟩ = some x.k ∧ w.cell? ⟨g, o + 25, none⟩ = some (.bool x.d) ∧ rSh.rd w ⟨g, o + 26, none⟩ = some x.r := by
 have hc : xS.At w ⟨g, o, none⟩ x := Shp.at_of h
 have hn : (bys x.k.l).length = 25 := by rw [bys_len, x.k.len]
 have c : ∀ j u, (xcells x)[j]? = some u → w.cell? ⟨g, o + j, none⟩ = some u := fun j u hu => by have := hc j u hu; rwa [add_o] at this
 refine ⟨Shp.rd_of fun j u hu => ?_, ?_, Shp.rd_of fun j u hu => ?_⟩
 ·rw [add_o]
  refine c j u ?_
  have hu : (bys x.k.l)[j]? = some u := hu
  rw [xcells, List.getElem?_append_left (List.getElem?_eq_some_iff.1 hu).1, hu]
 ·exact c 25 (.bool x.d) (by rw [xcells, List.getElem?_append_right (by omega), hn]; rfl)
 ·rw [add_o, Nat.add_assoc]
  refine c (26 + j) u ?_
  rw [xcells, List.getElem?_append_right (by omega), hn, show 26 + j - 25 = j + 1 by omega]
  exact hu
noncomputable def ldx (v : Value) : Sem Value := Instr.loadAt 77 v
noncomputable def lvx (a : Addr) : Sem Value := loadVar 77 a
noncomputable def stx (p v : Value) : Sem Unit := Instr.storeAt 77 p v
noncomputable def bdx (ps : Array (Nat × Value)) : Sem Value := Instr.build 77 ps
noncomputable def bsx (n : Nat) (ps : Array (Nat × Value)) : Sem Value := Instr.buildSlice 22 n ps
theorem ld_x (v : Value) : Instr.loadAt 77 v = ldx v := rfl
theorem lv_x (a : Addr) : loadVar 77 a = lvx a := rfl
theorem st_x (p v : Value) : Instr.storeAt 77 p v = stx p v := rfl
theorem bd_x (ps : Array (Nat × Value)) : Instr.build 77 ps = bdx ps := rfl
theorem bs_x (n : Nat) (ps : Array (Nat × Value)) : Instr.buildSlice 22 n ps = bsx n ps := rfl
theorem run_lvx (w : World) (a : Addr) : (lvx a).run Tryz.prog w = (xS.rd w a).elim (bl 77 a w) fun x => .ok (.agg (xS.v x)) w := by
 cases h : xS.rd w a with
 | none => rfl
 | some x => exact Shp.loadVar_of Tryz.isAgg77 Tryz.sizeOf77 (Shp.at_of h)
theorem run_ldx (w : World) (a : Addr) : (ldx (.pointer (some a))).run Tryz.prog w = (xS.rd w a).elim (bl 77 a w) fun x => .ok (.agg (xS.v x)) w := by
 rw [← run_lvx]; simp only [ldx, lvx, Instr.loadAt, Instr.sureAddr, Sem.run_bind, Sem.run_pure, Result.andThen_ok]
theorem run_stx (w : World) (g : Nat) (x : D.Wt) : (stx (.pointer (some ⟨g, 0, none⟩)) (.agg (xS.v x))).run Tryz.prog w = bif Shp.tn 35 w g then .ok () (w.setRow g (xS.v x)) else bs 77 g (xS.v x) w := by
 cases h : Shp.tn 35 w g with
 | false => rfl
 | true => exact Shp.storeVar_of (S := xS) h x fun t' cs hb hs => run_storeVar_row (P := Tryz.prog) w g t' _ cs (xS.v x) hb.out (by rw [xS.v_size]; kernel_rfl) hs (xS.v_one x)
noncomputable def lde (v : Value) : Sem Value := Instr.loadAt 118 v
noncomputable def lve (a : Addr) : Sem Value := loadVar 118 a
noncomputable def ste (p v : Value) : Sem Unit := Instr.storeAt 118 p v
noncomputable def bde (ps : Array (Nat × Value)) : Sem Value := Instr.build 118 ps
noncomputable def bse (n : Nat) (ps : Array (Nat × Value)) : Sem Value := Instr.buildSlice 112 n ps
noncomputable def nee (u v : Value) : Sem Value := binOp .neq 118 u v
theorem ld_e (v : Value) : Instr.loadAt 118 v = lde v := rfl
theorem lv_e (a : Addr) : loadVar 118 a = lve a := rfl
theorem st_e (p v : Value) : Instr.storeAt 118 p v = ste p v := rfl
theorem bd_e (ps : Array (Nat × Value)) : Instr.build 118 ps = bde ps := rfl
theorem bs_e (n : Nat) (ps : Array (Nat × Value)) : Instr.buildSlice 112 n ps = bse n ps := rfl
theorem ne_e (u v : Value) : binOp .neq 118 u v = nee u v := rfl
theorem run_lve (w : World) (a : Addr) : (lve a).run Tryz.prog w = (eS.rd w a).elim (bl 118 a w) fun x => .ok (.agg (eS.v x)) w := by
 cases h : eS.rd w a with
 | none => rfl
 | some x => exact Shp.loadVar_of Tryz.isAgg118 Tryz.sizeOf118 (Shp.at_of h)
theorem run_lde (w : World) (a : Addr) : (lde (.pointer (some a))).run Tryz.prog w = (eS.rd w a).elim (bl 118 a w) fun x => .ok (.agg (eS.v x)) w := by
 rw [← run_lve]; simp only [lde, lve, Instr.loadAt, Instr.sureAddr, Sem.run_bind, Sem.run_pure, Result.andThen_ok]
theorem run_bdv_3 (w : World) (a : Nat) (d : Bool) (r : D.Rc) : (bdv #[(0, .int .u64 (a : Nat)), (1, .bool d), (2, .agg (rSh.v r))]).run Tryz.prog w = .ok (.agg (vS.v ⟨a, d, r⟩)) w := by
 simp [bdv, vv_eq, rv_eq, Instr.build, go_sem]
theorem bde_list (w : World) (r : D.Rc) : ∀ l : List Value, l.length = 25 → (bde #[(0, .agg l.toArray), (1, .agg (rSh.v r))]).run Tryz.prog w = .ok (.agg (l ++ rcellsh r).toArray) w
 | [a0, a1, a2, a3, a4, a5, a6, a7, a8, a9, a10, a11, a12, a13, a14, a15, a16, a17, a18, a19, a20, a21, a22, a23, a24], _ => by
  rw [show rSh.v r = (rcellsh r).toArray from rfl]
  simp [bde, rcellsh, Instr.build, go_sem]
theorem run_bde (w : World) (k : D.Ky) (r : D.Rc) : (bde #[(0, .agg (kS.v k)), (1, .agg (rSh.v r))]).run Tryz.prog w = .ok (.agg (eS.v (k, r))) w := bde_list w r (bys k.l) (by rw [bys_len, k.len])
theorem bse_list (w : World) (r : D.Rc) : ∀ l : List Value, l.length = 25 → (bse 1 #[(0, .agg (l ++ rcellsh r).toArray)]).run Tryz.prog w = .ok (.slice (some ⟨w.heap.size, 0, none⟩) 1 1) (w.alloc (.cells (l ++ rcellsh r).toArray 118))
 | [a0, a1, a2, a3, a4, a5, a6, a7, a8, a9, a10, a11, a12, a13, a14, a15, a16, a17, a18, a19, a20, a21, a22, a23, a24], _ => by
  simp [bse, rcellsh, Instr.buildSlice, go_sem]
theorem run_bse1 (w : World) (x : Ent) : (bse 1 #[(0, .agg (eS.v x))]).run Tryz.prog w = .ok (.slice (some ⟨w.heap.size, 0, none⟩) 1 1) (w.alloc (.cells (eS.v x) 118)) := bse_list w x.2 (bys x.1.l) (by rw [bys_len, x.1.len])
end Go.Proofs.YtjlaffgbmcpldaaGreatDoor
