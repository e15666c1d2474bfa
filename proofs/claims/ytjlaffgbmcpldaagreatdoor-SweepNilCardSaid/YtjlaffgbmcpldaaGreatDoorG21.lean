/-
  
-/
import Derived.Test.YtjlaffgbmcpldaaGreatDoorG20
set_option linter.unusedVariables false
set_option linter.unusedSimpArgs false
set_option maxRecDepth 100000
namespace Go.Proofs.YtjlaffgbmcpldaaGreatDoor
open Go.RowKit
attribute [local go_sem ↓] Go.wp_at_zero Go.wp_at_succ ld_k lv_k st_k eq_k ne_k bd_k ld_b lv_b st_b eq_b ne_b bd_25 ld_r lv_r st_rk eq_rk ne_rk bd_r ld_p lv_p st_px bd_p Nm.ld_a Nm.ld_n Nm.st_a Nm.st_n Nm.eq_a Nm.eq_n Nm.ne_a Nm.ne_n Nm.lv_a Nm.lv_n ld_a ld_n st_a st_n eq_a eq_n ne_a ne_n lv_a lv_n ld_l lv_l st_l bd_l bd_n bs_k
attribute [local go_sem] run_ldk run_lvk run_stk run_eqk run_nek run_bdk_z run_ldb run_lvb run_stb run_eqb run_neb run_ldr run_lvr run_strk run_eqrk run_nerk run_bdr_z run_ldp run_lvp run_stpx Nm.run_ld_a Nm.run_ld_n Nm.run_st_n Nm.run_eq_a Nm.run_eq_n Nm.run_ne_a Nm.run_ne_n Nm.run_lv_a Nm.run_lv_n Nm.rd_new Nm.rd_old Nm.rd_drew Nm.rd_drewN run_ld_a run_ld_n run_sw_a run_sw_n run_eq_a run_eq_n run_ne_a run_ne_n run_lv_a run_lv_n st_z ne_z eq_z rd_new rd_old rd_drew rd_drewN Shp.rd_new Shp.rd_old Shp.rd_drew Shp.rd_drewN Shp.rd_set Shp.tn_new Shp.tn_old Shp.tn_drew Shp.tn_drewN tn_new tn_old tn_drew tn_drewN rd_set setRow_alloc run_stn3 run_stt15 run_lvl run_ldl run_stl run_bdl run_bdn run_bdn0 run_bsk Shp.rd_extk cell_ext
def hld (k : D.Ky) : Option Tk → Option Addr
 | none => none
 | some t => if (t.near k).hd.1 = k then some ⟨(t.near k).ad, 0, none⟩ else none
theorem subo_near {w : World} {g : Nat} {t : Tk} (h : TR w g (some t)) (k : D.Ky) : subo k 200 (some t) = some (t.near k) := by
 rw [Cr.Tr.near_sub (h.wf t rfl)]; rfl
theorem nd_sub {w : World} {k : D.Ky} {d : Nat} : ∀ {t : Tk}, Nd w t → Nd w (t.sub k d) ∧ ∀ q ∈ (t.sub k d).bl, q ∈ t.bl
 | .lf _ _ _, h => ⟨h, fun q hq => hq⟩
 | .br a b l r, h => by
  simp only [Cr.Tr.sub]
  split
  ·split
   ·obtain ⟨h1, h2⟩ := nd_sub (k := k) (d := d) h.2.2
    exact ⟨h1, fun q hq => by simp [Cr.Tr.bl, h2 q hq]⟩
   ·obtain ⟨h1, h2⟩ := nd_sub (k := k) (d := d) h.2.1
    exact ⟨h1, fun q hq => by simp [Cr.Tr.bl, h2 q hq]⟩
  ·exact ⟨h, fun q hq => hq⟩
theorem nd_near {w : World} {g : Nat} {t : Tk} (h : TR w g (some t)) (k : D.Ky) : Nd w (t.near k) := by
 rw [Cr.Tr.near_sub (h.wf t rfl)]; exact (nd_sub (h.nd t rfl)).1
theorem place200 (g : Nat) (o : Option Tk) (k : D.Ky) (w : World) (hT : TR w g o) : Calls Tryz.prog 105 #[.pointer (some ⟨g, 0, none⟩), .agg (kS.v k), .int .i64 200] w fun e w' => e = .returned (.pointer (some (plc k ⟨g, 0, none⟩ (pth k 200 o)))) ∧ Below w.heap.size w w' := place_any g o k 200 (by omega) w hT
set_option maxHeartbeats 4000000 in
theorem held_any (g : Nat) (o : Option Tk) (k : D.Ky) (w : World) (hT : TR w g o) : Calls Tryz.prog 121 #[.pointer (some ⟨g, 0, none⟩), .agg (kS.v k)] w fun e w' => e = .returned (.pointer (hld k o)) ∧ Below w.heap.size w w' := by
 obtain ⟨w0, hw0⟩ : ∃ w0, w.alloc (.cells (kS.v k) 39) = w0 := ⟨_, rfl⟩
 have f0 : kS.rd w0 ⟨w.heap.size, 0, none⟩ = some k := by rw [← hw0]; exact Shp.rd_new _ _ _ _ rfl
 have b0 : Below w.heap.size w w0 := by rw [← hw0]; exact below_alloc_ _ _
 have hT0 := hT.on b0
 have CP := Lib.hid (place200 g o k w0 hT0)
 cases o with
 | none =>
  clear hT
  go_enter Tryz.func121, Tryz.ntmps121
  go_wp2_with fail
  try rw [hw0]
  clear hw0
  go_wp2_with (go_at_call 105; (with_reducible refine CP.out.mono ?_); rintro e w1 ⟨rfl, b1⟩; have hc : w1.cell? (plc k ⟨g, 0, none⟩ (pth k 200 none)) = some (.pointer none) := (hT0.on b1).sub_cell (Nat.le_refl _); have z1 := below_up b0 b0.size b1)
  go_quiet (fail)
  go_wp2
  go_ret
  exact ⟨rfl, below_drewN z1 _⟩
 | some t =>
  obtain ⟨a, x, v, hn⟩ := Cr.Tr.near_lf k t
  have hs := subo_near hT k
  have C2 := Lib.hid (fun w => parting_any x k w)
  have hl := Cr.par_le x k
  have hh : hld k (some t) = if x = k then some ⟨a, 0, none⟩ else none := by unfold hld; simp only [hn]; rfl
  rw [hn] at hs
  have hr := @Cr.par_200 D.Ky _ _ x k
  obtain ⟨r, er⟩ : ∃ r, Cr.par x k = r := ⟨_, rfl⟩
  rw [er] at C2 hl hr
  have HN := Lib.hid (fun w1 (hT1 : TR w1 g (some t)) => show NF w1 a 200 none none (x, v) from by have := (nd_near hT1 k).nf; rw [hn] at this; exact this)
  rw [hh]
  clear hT er hh hn
  by_cases c : r = 200
  ·have hxk := hr.1 c
   have hd : decide ((r : Int) < 200) = false := decide_eq_false (by omega)
   rw [if_pos hxk]
   clear hxk hr
   go_enter Tryz.func121, Tryz.ntmps121
   go_wp2_with fail
   try rw [hw0]
   clear hw0
   go_wp2_with (go_at_call 105; (with_reducible refine CP.out.mono ?_); rintro e w1 ⟨rfl, b1⟩; have hc : w1.cell? (plc k ⟨g, 0, none⟩ (pth k 200 (some t))) = some (.pointer (some ⟨a, 0, none⟩)) := by { have := (hT0.on b1).sub_cell (k := k) (Nat.le_refl 200); rw [hs] at this; exact this }; have z1 := below_up b0 b0.size b1; have f1 := Shp.rd_on f0 b1; have nf := HN.out _ (hT0.on b1); have k1 := nf.key; have l1 := nf.lt; have l2 := Shp.rd_lt f1)
   refine wp_region_ext (by kernel_rfl) (by kernel_rfl) ?_
   repeat (go_big_quiet_step ((go_at_call 130; with_reducible exact calls_ext (C2.out _))))
   refine wpQuiet_nil ?_
   intro w4 hw4
   have z4 := below_up z1 z1.size (ext_to hw4)
   clear hw4
   go_wp2
   go_ret
   exact ⟨rfl, z4⟩
  ·have hxk := fun e => c (hr.2 e)
   have hd : decide ((r : Int) < 200) = true := decide_eq_true (by omega)
   rw [if_neg hxk]
   clear hxk hr
   go_enter Tryz.func121, Tryz.ntmps121
   go_wp2_with fail
   try rw [hw0]
   clear hw0
   go_wp2_with (go_at_call 105; (with_reducible refine CP.out.mono ?_); rintro e w1 ⟨rfl, b1⟩; have hc : w1.cell? (plc k ⟨g, 0, none⟩ (pth k 200 (some t))) = some (.pointer (some ⟨a, 0, none⟩)) := by { have := (hT0.on b1).sub_cell (k := k) (Nat.le_refl 200); rw [hs] at this; exact this }; have z1 := below_up b0 b0.size b1; have f1 := Shp.rd_on f0 b1; have nf := HN.out _ (hT0.on b1); have k1 := nf.key; have l1 := nf.lt; have l2 := Shp.rd_lt f1)
   refine wp_region_ext (by kernel_rfl) (by kernel_rfl) ?_
   repeat (go_big_quiet_step ((go_at_call 130; with_reducible exact calls_ext (C2.out _))))
   refine wpQuiet_nil ?_
   intro w4 hw4
   have z4 := below_up z1 z1.size (ext_to hw4)
   clear hw4
   go_wp2
   go_ret
   exact ⟨rfl, z4⟩
def got (k : D.Ky) (l : List (D.Ky × Vl)) : Vl := (Cr.get k l).getD none
theorem up_of {w : World} {g : Nat} {o : Option Tk} (h : TR w g o) : Cr.Up (Cr.Tr.lso o) := by
 cases o with
 | none => exact List.Pairwise.nil
 | some t => exact Cr.Tr.sorted (h.wf t rfl)
theorem hld_has {w : World} {g : Nat} {o : Option Tk} (h : TR w g o) (k : D.Ky) : (Cr.has k (Cr.Tr.lso o) = false ∧ hld k o = none) ∨ ∃ t a v, o = some t ∧ t.near k = .lf a k v ∧ hld k o = some ⟨a, 0, none⟩ ∧ Cr.has k (Cr.Tr.lso o) = true ∧ (k, v) ∈ t.ls := by
 cases o with
 | none => exact .inl ⟨rfl, rfl⟩
 | some t =>
  obtain ⟨a, x, v, hn⟩ := Cr.Tr.near_lf k t
  have hi := Cr.Tr.near_is (k := k) (h.wf t rfl)
  have hm := Cr.Tr.near_mem k t
  have hh : hld k (some t) = if x = k then some ⟨a, 0, none⟩ else none := by unfold hld; simp only [hn]; rfl
  rw [hn] at hi hm
  by_cases c : x = k
  ·subst c
   exact .inr ⟨t, a, v, rfl, hn, by rw [hh, if_pos rfl], Cr.has_iff.2 (hi.1 rfl), hm⟩
  ·refine .inl ⟨?_, by rw [hh, if_neg c]⟩
   cases hc : Cr.has k (Cr.Tr.lso (some t))
   ·rfl
   ·exact absurd (hi.2 (Cr.has_iff.1 hc)) c
theorem lf_nf {w : World} {g : Nat} {t : Tk} (h : TR w g (some t)) {k : D.Ky} {a : Nat} {v : Vl} (hn : t.near k = .lf a k v) : NF w a 200 none none (k, v) := by
 have := (nd_near h k).nf
 rw [hn] at this
 exact this
set_option maxHeartbeats 4000000 in
theorem get_any (g : Nat) (o : Option Tk) (k : D.Ky) (w : World) (hT : TR w g o) : Calls Tryz.prog 92 #[.pointer (some ⟨g, 0, none⟩), .agg (kS.v k)] w fun e w' => e = .returned (.tuple #[.pointer (got k (Cr.Tr.lso o)), .bool (Cr.has k (Cr.Tr.lso o))]) ∧ Below w.heap.size w w' := by
 have b0 := below_alloc_ w (.cells (kS.v k) 39)
 have hT0 := hT.on b0
 have CH := Lib.hid (held_any g o k _ hT0)
 rcases hld_has hT k with ⟨h1, h2⟩ | ⟨t, a, v, rfl, hn, h2, h3, hm⟩
 ·rw [h2] at CH
  rw [h1, got, Cr.get_none h1]
  clear h1 h2 hT
  go_enter Tryz.func92, Tryz.ntmps92
  go_wp2_with (go_at_call 121; (with_reducible refine CH.out.mono ?_); rintro e w1 ⟨rfl, b1⟩; have z1 := below_up b0 b0.size b1)
  go_ret2
  exact ⟨rfl, z1⟩
 ·rw [h2] at CH
  have hg : Cr.get k (Cr.Tr.lso (some t)) = some v := Cr.get_some (up_of hT) hm
  rw [h3, got, hg]
  have HN := Lib.hid hn
  clear h3 h2 hT hg hn hm
  go_enter Tryz.func92, Tryz.ntmps92
  go_wp2_with (go_at_call 121; (with_reducible refine CH.out.mono ?_); rintro e w1 ⟨rfl, b1⟩; have z1 := below_up b0 b0.size b1; have nf := lf_nf (hT0.on b1) HN.out; have c1 := nf.thing)
  go_ret2
  exact ⟨rfl, z1⟩
end Go.Proofs.YtjlaffgbmcpldaaGreatDoor
namespace Go.Proofs.YtjlaffgbmcpldaaGreatDoor
open Go.RowKit

abbrev nT : TypeId := 243
theorem ndc_lo (b : Int) (p q r : Option Addr) (e : D.Ky × Vl) : (ndc b p q e).setIfInBounds 1 (.pointer r) = ndc b r q e := by simp [ndc, ndl]
theorem ndc_hi (b : Int) (p q r : Option Addr) (e : D.Ky × Vl) : (ndc b p q e).setIfInBounds 2 (.pointer r) = ndc b p r e := by simp [ndc, ndl]
theorem ndc_thing (b : Int) (p q : Option Addr) (x : D.Ky) (u v : Vl) : (ndc b p q (x, u)).setIfInBounds 28 (.pointer v) = ndc b p q (x, v) := by
 have hl := x.len
 unfold ndc
 rw [List.setIfInBounds_toArray]
 congr 1
 simp only [ndl, lcells, List.set_cons_succ]
 rw [List.set_append_right _ _ (by rw [bys_len, hl]; omega)]
 simp [bys_len, hl]
theorem nd_set {w : World} {t : Tk} (h : Nd w t) {a : Addr} (ha : a.block ∉ t.bl) (v : Value) : Nd (w.setCell a v) t := h.kept fun g hg => Below.heap_setCell w a v g (fun e => ha (by rw [← e]; exact hg))
theorem plc_in {k : D.Ky} {d : Nat} : ∀ {t : Tk} {p : Addr}, t.bit < d → d ≤ 200 → (plc k p (t.path k d)).block ∈ t.bl
 | .lf _ _ _, p, h, hd => by simp only [Cr.Tr.bit] at h; omega
 | .br a b l r, p, h, hd => by
  have h : b < d := h
  simp only [Cr.Tr.path, if_pos h]
  have key : ∀ u : Tk, (∀ q ∈ u.bl, q ∈ (Cr.Tr.br a b l r).bl) → (u.bit < d → ∀ p, (plc k p (u.path k d)).block ∈ u.bl) → (plc k p (Cr.Tr.br a b l r :: u.path k d)).block ∈ (Cr.Tr.br a b l r).bl := by
   intro u hu hi
   by_cases c : u.bit < d
   ·exact hu _ (hi c _)
   ·rw [path_out c]
    show (Cr.Tr.br a b l r).ad ∈ _
    exact Cr.Tr.ad_mem _
  split
  ·exact key r (fun q hq => by simp [Cr.Tr.bl, hq]) (fun c p => plc_in c hd)
  ·exact key l (fun q hq => by simp [Cr.Tr.bl, hq]) (fun c p => plc_in c hd)
theorem sub_self {k : D.Ky} {d : Nat} : ∀ {t : Tk}, ¬ t.bit < d → t.sub k d = t
 | .lf _ _ _, _ => rfl
 | .br a b l r, h => by
  have h : ¬ b < d := h
  simp only [Cr.Tr.sub, if_neg h]
theorem ins_mk {k : D.Ky} {v : Vl} {d a c : Nat} : ∀ {t : Tk}, ¬ t.bit < d → t.ins k v d a c = Cr.Tr.mk k v d a c t
 | .lf _ _ _, _ => rfl
 | .br a' b l r, h => by
  have h : ¬ b < d := h
  rw [Cr.Tr.ins_br, if_neg h]
theorem ins_ad {k : D.Ky} {v : Vl} {d a c : Nat} : ∀ {t : Tk}, t.bit < d → d ≤ 200 → (t.ins k v d a c).ad = t.ad
 | .lf _ _ _, h, hd => by simp only [Cr.Tr.bit] at h; omega
 | .br a' b l r, h, hd => by
  have h : b < d := h
  rw [Cr.Tr.ins_br, if_pos h]
  split <;> rfl
def newc (k : D.Ky) (d a s : Nat) : Array Value := if Cr.Bits.bt k d then ndc d (some ⟨s, 0, none⟩) (some ⟨a, 0, none⟩) (D.zK, none) else ndc d (some ⟨a, 0, none⟩) (some ⟨s, 0, none⟩) (D.zK, none)
theorem nd_mk {w : World} {k : D.Ky} {v : Vl} {d a c : Nat} {t : Tk} (h : Nd w t) (ha : Blk w a nT (ndc 200 none none (k, v))) (hc : Blk w c nT (newc k d a t.ad)) : Nd w (Cr.Tr.mk k v d a c t) := by
 unfold Cr.Tr.mk
 unfold newc at hc
 by_cases hb : Cr.Bits.bt k d = true
 ·rw [if_pos hb] at hc ⊢; exact ⟨hc, h, ha⟩
 ·rw [if_neg hb] at hc ⊢; exact ⟨hc, ha, h⟩
theorem ins_nd {w : World} {k : D.Ky} {v : Vl} {d a c : Nat} (hd : d ≤ 200) : ∀ {t : Tk} {p : Addr}, Nd w t → t.wf → t.bl.Nodup → t.bit < d → a ∉ t.bl → c ∉ t.bl → Blk w a nT (ndc 200 none none (k, v)) → Blk w c nT (newc k d a (t.sub k d).ad) →
  Nd (w.setCell (plc k p (t.path k d)) (.pointer (some ⟨c, 0, none⟩))) (t.ins k v d a c)
 | .lf _ _ _, p, _, _, _, h, _, _, _, _ => by simp only [Cr.Tr.bit] at h; omega
 | .br a' b l r, p, hN, hw, hn, h, ha, hc, hA, hC => by
  have h : b < d := h
  have hb2 : b < 200 := hw.1
  simp only [Cr.Tr.bl, List.nodup_cons, List.mem_append, not_or, List.nodup_append] at hn
  obtain ⟨⟨n1, n2⟩, nl, nr, nlr⟩ := hn
  simp only [Cr.Tr.bl, List.mem_cons, List.mem_append, not_or] at ha hc
  rw [Cr.Tr.ins_br, if_pos h]
  by_cases hbt : Cr.Bits.bt k b = true
  ·have hsd : D.sd k b = 1 := by unfold D.sd; rw [if_pos hbt]
   rw [if_pos hbt]
   simp only [Cr.Tr.path, Cr.Tr.sub, if_pos h, if_pos hbt] at hC ⊢
   by_cases hr : r.bit < d
   ·have hin := plc_in (k := k) (d := d) (p := ⟨a', 1 + D.sd k b, none⟩) hr hd
    have hI := ins_nd hd (p := ⟨a', 1 + D.sd k b, none⟩) hN.2.2 hw.2.2.2.2.2 nr hr ha.2.2 hc.2.2 hA hC
    refine ⟨?_, nd_set hN.2.1 (fun e => nlr _ e _ hin rfl) _, hI⟩
    rw [ins_ad hr hd]
    exact ⟨(Below.heap_setCell w _ _ a' (fun e => n2 (by rw [e]; exact hin))).trans hN.1.out⟩
   ·rw [path_out hr, ins_mk hr]
    rw [sub_self hr] at hC
    show Nd (w.setCell ⟨a', 1 + D.sd k b, none⟩ _) _
    rw [hsd]
    have hset := hN.1.put 2 (.pointer (some ⟨c, 0, none⟩))
    rw [ndc_hi] at hset
    refine ⟨?_, nd_set hN.2.1 n1 _, nd_mk (nd_set hN.2.2 n2 _) ⟨(Below.heap_setCell w _ _ a ha.1).trans hA.out⟩ ⟨(Below.heap_setCell w _ _ c hc.1).trans hC.out⟩⟩
    have : (Cr.Tr.mk k v d a c r).ad = c := by unfold Cr.Tr.mk; split <;> rfl
    rw [this]; exact hset
  ·have hsd : D.sd k b = 0 := by unfold D.sd; rw [if_neg hbt]
   rw [if_neg hbt]
   simp only [Cr.Tr.path, Cr.Tr.sub, if_pos h, if_neg hbt] at hC ⊢
   by_cases hr : l.bit < d
   ·have hin := plc_in (k := k) (d := d) (p := ⟨a', 1 + D.sd k b, none⟩) hr hd
    have hI := ins_nd hd (p := ⟨a', 1 + D.sd k b, none⟩) hN.2.1 hw.2.2.2.2.1 nl hr ha.2.1 hc.2.1 hA hC
    refine ⟨?_, hI, nd_set hN.2.2 (fun e => nlr _ hin _ e rfl) _⟩
    rw [ins_ad hr hd]
    exact ⟨(Below.heap_setCell w _ _ a' (fun e => n1 (by rw [e]; exact hin))).trans hN.1.out⟩
   ·rw [path_out hr, ins_mk hr]
    rw [sub_self hr] at hC
    show Nd (w.setCell ⟨a', 1 + D.sd k b, none⟩ _) _
    rw [hsd]
    have hset := hN.1.put 1 (.pointer (some ⟨c, 0, none⟩))
    rw [ndc_lo] at hset
    refine ⟨?_, nd_mk (nd_set hN.2.1 n1 _) ⟨(Below.heap_setCell w _ _ a ha.1).trans hA.out⟩ ⟨(Below.heap_setCell w _ _ c hc.1).trans hC.out⟩, nd_set hN.2.2 n2 _⟩
    have : (Cr.Tr.mk k v d a c l).ad = c := by unfold Cr.Tr.mk; split <;> rfl
    rw [this]; exact hset
theorem mk_bl {k : D.Ky} {v : Vl} {d a c : Nat} (t : Tk) : (Cr.Tr.mk k v d a c t).bl.Perm (c :: a :: t.bl) := by
 unfold Cr.Tr.mk
 split
 ·simp only [Cr.Tr.bl]; exact List.Perm.cons _ (List.perm_append_comm)
 ·exact List.Perm.refl _
theorem perm_mid {x : List Nat} {c a : Nat} {l r : List Nat} (h : r.Perm (c :: a :: x)) : (l ++ r).Perm (c :: a :: (l ++ x)) := by
 refine (List.Perm.append_left l h).trans ?_
 refine (List.perm_middle).trans (List.Perm.cons _ ?_)
 exact List.perm_middle
theorem ins_bl {k : D.Ky} {v : Vl} {d a c : Nat} : ∀ t : Tk, (t.ins k v d a c).bl.Perm (c :: a :: t.bl)
 | .lf a' x u => mk_bl _
 | .br a' b l r => by
  rw [Cr.Tr.ins_br]
  have sw : ∀ {m x : List Nat}, m.Perm (c :: a :: x) → (a' :: m).Perm (c :: a :: a' :: x) := fun h => (List.Perm.cons _ h).trans ((List.Perm.swap _ _ _).trans (List.Perm.cons _ (List.Perm.swap _ _ _)))
  split
  ·split
   ·exact sw (perm_mid (ins_bl r))
   ·simp only [Cr.Tr.bl]
    exact sw ((List.Perm.append_right r.bl (ins_bl l)).trans (List.Perm.refl _))
  ·exact mk_bl _
def blo (o : Option Tk) : List Nat := match o with | none => [] | some t => t.bl
theorem upd_nd {w : World} {k : D.Ky} {u : Vl} {a : Nat} {v : Vl} : ∀ {t : Tk}, Nd w t → t.bl.Nodup → t.near k = .lf a k v → Nd (w.setCell ⟨a, 28, none⟩ (.pointer u)) (t.upd k u) ∧ (t.upd k u).ad = t.ad ∧ (t.upd k u).bl = t.bl ∧ a ∈ t.bl
 | .lf a' x y, hN, _, hn => by
  simp only [Cr.Tr.near, Cr.Tr.lf.injEq] at hn
  obtain ⟨rfl, rfl, rfl⟩ := hn
  have := hN.put 28 (.pointer u)
  rw [ndc_thing] at this
  refine ⟨?_, rfl, rfl, by simp [Cr.Tr.bl]⟩
  simp only [Cr.Tr.upd, if_true]
  exact this
 | .br a' b l r, hN, hn, hk => by
  simp only [Cr.Tr.bl, List.nodup_cons, List.mem_append, not_or, List.nodup_append] at hn
  obtain ⟨⟨n1, n2⟩, nl, nr, nlr⟩ := hn
  simp only [Cr.Tr.near] at hk
  simp only [Cr.Tr.upd]
  by_cases hbt : Cr.Bits.bt k b = true
  ·rw [if_pos hbt] at hk ⊢
   obtain ⟨h1, h2, h3, h4⟩ := upd_nd (u := u) hN.2.2 nr hk
   refine ⟨⟨?_, nd_set hN.2.1 (fun e => nlr _ e _ h4 rfl) _, h1⟩, rfl, by simp only [Cr.Tr.bl, h3], by simp [Cr.Tr.bl, h4]⟩
   rw [h2]
   exact ⟨(Below.heap_setCell w _ _ a' (fun e => n2 (by rw [e]; exact h4))).trans hN.1.out⟩
  ·rw [if_neg hbt] at hk ⊢
   obtain ⟨h1, h2, h3, h4⟩ := upd_nd (u := u) hN.2.1 nl hk
   refine ⟨⟨?_, h1, nd_set hN.2.2 (fun e => nlr _ h4 _ e rfl) _⟩, rfl, by simp only [Cr.Tr.bl, h3], by simp [Cr.Tr.bl, h4]⟩
   rw [h2]
   exact ⟨(Below.heap_setCell w _ _ a' (fun e => n1 (by rw [e]; exact h4))).trans hN.1.out⟩
end Go.Proofs.YtjlaffgbmcpldaaGreatDoor
namespace Go.Proofs.YtjlaffgbmcpldaaGreatDoor
open Go.RowKit

theorem plc_last {k : D.Ky} {p : Addr} {l : List Tk} : (l = [] ∧ plc k p l = p) ∨ ∃ y ∈ l, plc k p l = ⟨y.ad, 1 + D.sd k y.bit, none⟩ := by
 rcases List.eq_nil_or_concat l with rfl | ⟨l', y, rfl⟩
 ·exact .inl ⟨rfl, rfl⟩
 ·refine .inr ⟨y, by simp, ?_⟩
  rw [List.concat_eq_append, plc_app]
theorem TR.free {w : World} {g : Nat} {o : Option Tk} (h : TR w g o) {k : D.Ky} {d : Nat} : w.frozen? (plc k ⟨g, 0, none⟩ (pth k d o)) = false := by
 rcases plc_last (k := k) (p := ⟨g, 0, none⟩) (l := pth k d o) with ⟨_, e⟩ | ⟨y, hy, e⟩
 ·rw [e]
  obtain ⟨n, hB⟩ := h.blk
  exact hB.f 0
 ·rw [e]
  obtain ⟨hN, _, _, t, _, hs⟩ := h.mem hy
  obtain ⟨cs, hB⟩ := hN.lt y.ad y.ad_mem
  exact hB.f _
theorem plc_blk {w : World} {g : Nat} {o : Option Tk} (h : TR w g o) {k : D.Ky} {d : Nat} : (plc k ⟨g, 0, none⟩ (pth k d o)).block ∈ g :: blo o := by
 rcases plc_last (k := k) (p := ⟨g, 0, none⟩) (l := pth k d o) with ⟨_, e⟩ | ⟨y, hy, e⟩
 ·rw [e]; simp
 ·rw [e]
  obtain ⟨hN, _, _, t, rfl, hs⟩ := h.mem hy
  exact List.mem_cons_of_mem _ (hs _ y.ad_mem)
theorem ls_ins {k : D.Ky} {v : Vl} {d a c : Nat} {t : Tk} (hw : t.wf) (hn : Cr.has k t.ls = false) (hd : Cr.par (t.near k).hd.1 k = d) (hl : d < 200) : (t.ins k v d a c).ls = Cr.put k v t.ls := by
 have hu : Cr.Up t.ls := Cr.Tr.sorted hw
 refine Cr.Up.eq (Cr.Tr.sorted (Cr.Tr.ins_wf hw hd hl)) (Cr.put_up hu) fun x => ?_
 rw [Cr.Tr.ins_mem, Cr.put_mem hu]
 constructor
 ·rintro (h | h)
  ·exact .inl h
  ·refine .inr ⟨h, fun e => ?_⟩
   have : Cr.has k t.ls = true := Cr.has_iff.2 ⟨x.2, by rw [← e]; exact h⟩
   rw [hn] at this; cases this
 ·rintro (h | ⟨h, _⟩)
  ·exact .inl h
  ·exact .inr h
theorem near_ne {k : D.Ky} {t : Tk} (hw : t.wf) (hn : Cr.has k t.ls = false) : Cr.par (t.near k).hd.1 k < 200 := by
 rw [Cr.par_lt]
 intro e
 have := Cr.has_iff.2 ((Cr.Tr.near_is hw).1 e)
 rw [hn] at this; cases this
theorem tr_ins {W : World} {g : Nat} {t : Tk} {k : D.Ky} {v : Vl} {n : Int} {d a c : Nat} (hT : TR W g (some t)) (hn : Cr.has k t.ls = false) (hd : Cr.par (t.near k).hd.1 k = d) (hB : Blk W g 177 #[.pointer (pt (some t)), .int .i64 n])
  (ha : a ∉ t.bl) (hc : c ∉ t.bl) (hac : a ≠ c) (hA : Blk W a nT (ndc 200 none none (k, v))) (hC : Blk W c nT (newc k d a (t.sub k d).ad)) (hz : t.ls.length < 1000) :
  TR (W.setCell (plc k ⟨g, 0, none⟩ (pth k d (some t))) (.pointer (some ⟨c, 0, none⟩))) g (some (t.ins k v d a c)) ∧
  Blk (W.setCell (plc k ⟨g, 0, none⟩ (pth k d (some t))) (.pointer (some ⟨c, 0, none⟩))) g 177 #[.pointer (pt (some (t.ins k v d a c))), .int .i64 n] := by
 have hw := hT.wf t rfl
 have hl : d < 200 := by rw [← hd]; exact near_ne hw hn
 have hg := hT.out t rfl
 have hN := hT.nd t rfl
 have hls := ls_ins (v := v) (a := a) (c := c) hw hn hd hl
 have key : Nd (W.setCell (plc k ⟨g, 0, none⟩ (pth k d (some t))) (.pointer (some ⟨c, 0, none⟩))) (t.ins k v d a c) ∧
   Blk (W.setCell (plc k ⟨g, 0, none⟩ (pth k d (some t))) (.pointer (some ⟨c, 0, none⟩))) g 177 #[.pointer (pt (some (t.ins k v d a c))), .int .i64 n] := by
  by_cases hb : t.bit < d
  ·have hin := plc_in (k := k) (d := d) (p := ⟨g, 0, none⟩) hb (by omega)
   refine ⟨ins_nd (by omega) hN hw (hT.ndp t rfl) hb ha hc hA hC, ?_⟩
   have : pt (some (t.ins k v d a c)) = pt (some t) := by simp only [pt, Option.map_some, ins_ad hb (by omega)]
   rw [this]
   exact ⟨(Below.heap_setCell W _ _ g (fun e => hg (by rw [e]; exact hin))).trans hB.out⟩
  ·have hp : pth k d (some t) = [] := path_out hb
   rw [hp, ins_mk hb]
   rw [sub_self hb] at hC
   show Nd (W.setCell ⟨g, 0, none⟩ _) _ ∧ Blk (W.setCell ⟨g, 0, none⟩ _) g _ _
   refine ⟨nd_mk (nd_set hN hg _) ⟨(Below.heap_setCell W _ _ a (blk_ne hA hB (by decide))).trans hA.out⟩ ⟨(Below.heap_setCell W _ _ c (blk_ne hC hB (by decide))).trans hC.out⟩, ?_⟩
   have := hB.put 0 (.pointer (some ⟨c, 0, none⟩))
   have e : (Cr.Tr.mk k v d a c t).ad = c := by unfold Cr.Tr.mk; split <;> rfl
   simp only [pt, Option.map_some, e]
   exact this
 refine ⟨⟨⟨n, key.2⟩, fun u e => ?_, fun u e => ?_, fun u e => ?_, ?_⟩, key.2⟩
 ·injection e with e; subst e; exact key.1
 ·injection e with e; subst e; exact Cr.Tr.ins_wf hw hd hl
 ·injection e with e; subst e
  refine (ins_bl t).nodup_iff.2 (List.nodup_cons.2 ⟨?_, List.nodup_cons.2 ⟨ha, hT.ndp t rfl⟩⟩)
  simp only [List.mem_cons, not_or]
  exact ⟨fun e => hac e.symm, hc⟩
 ·show (t.ins k v d a c).ls.length ≤ 1000
  rw [hls, Cr.put_new (Cr.Tr.sorted hw) hn]; omega
theorem tr_upd {W : World} {g : Nat} {t : Tk} {k : D.Ky} {u v : Vl} {n : Int} {a : Nat} (hT : TR W g (some t)) (hk : t.near k = .lf a k v) (hB : Blk W g 177 #[.pointer (pt (some t)), .int .i64 n]) :
  TR (W.setCell ⟨a, 28, none⟩ (.pointer u)) g (some (t.upd k u)) ∧ Blk (W.setCell ⟨a, 28, none⟩ (.pointer u)) g 177 #[.pointer (pt (some (t.upd k u))), .int .i64 n] ∧ (t.upd k u).ls = Cr.put k u t.ls ∧ (t.upd k u).bl = t.bl ∧ a ∈ t.bl := by
 have hw := hT.wf t rfl
 obtain ⟨h1, h2, h3, h4⟩ := upd_nd (u := u) (hT.nd t rfl) (hT.ndp t rfl) hk
 have hhas : Cr.has k t.ls = true := by
  have := Cr.Tr.near_mem k t
  rw [hk] at this
  exact Cr.has_iff.2 ⟨v, this⟩
 have hls : (t.upd k u).ls = Cr.put k u t.ls := by rw [Cr.Tr.upd_ls hw, Cr.put_old (Cr.Tr.sorted hw) hhas]
 have hg := hT.out t rfl
 have hbk : Blk (W.setCell ⟨a, 28, none⟩ (.pointer u)) g 177 #[.pointer (pt (some (t.upd k u))), .int .i64 n] := by
  have : pt (some (t.upd k u)) = pt (some t) := by simp only [pt, Option.map_some, h2]
  rw [this]
  exact ⟨(Below.heap_setCell W _ _ g (fun e => hg (by rw [e]; exact h4))).trans hB.out⟩
 refine ⟨⟨⟨n, hbk⟩, fun x e => ?_, fun x e => ?_, fun x e => ?_, ?_⟩, hbk, hls, h3, h4⟩
 ·injection e with e; subst e; exact h1
 ·injection e with e; subst e; exact Cr.Tr.upd_wf hw
 ·injection e with e; subst e; rw [h3]; exact hT.ndp t rfl
 ·show (t.upd k u).ls.length ≤ 1000
  rw [hls, Cr.put_old (Cr.Tr.sorted hw) hhas, List.length_map]; exact hT.sz
theorem tr_one {W : World} {g a : Nat} {k : D.Ky} {v : Vl} {n : Int} (hA : Blk W a nT (ndc 200 none none (k, v))) (hB : Blk W g 177 #[.pointer none, .int .i64 n]) :
  TR (W.setCell ⟨g, 0, none⟩ (.pointer (some ⟨a, 0, none⟩))) g (some (.lf a k v)) ∧ Blk (W.setCell ⟨g, 0, none⟩ (.pointer (some ⟨a, 0, none⟩))) g 177 #[.pointer (pt (some (.lf a k v))), .int .i64 n] := by
 have hb := hB.put 0 (.pointer (some ⟨a, 0, none⟩))
 refine ⟨⟨⟨n, hb⟩, fun x e => ?_, fun x e => ?_, fun x e => ?_, by simp [Cr.Tr.lso, Cr.Tr.ls]⟩, hb⟩
 ·injection e with e; subst e
  exact ⟨(Below.heap_setCell W _ _ a (blk_ne hA hB (by decide))).trans hA.out⟩
 ·injection e with e; subst e; exact trivial
 ·injection e with e; subst e; simp [Cr.Tr.bl]
theorem TR.count {W : World} {g : Nat} {o : Option Tk} (h : TR W g o) {n : Int} (hB : Blk W g 177 #[.pointer (pt o), .int .i64 n]) (m : Int) :
  TR (W.setCell ⟨g, 1, none⟩ (.int .i64 m)) g o ∧ Blk (W.setCell ⟨g, 1, none⟩ (.int .i64 m)) g 177 #[.pointer (pt o), .int .i64 m] := by
 have hb := hB.put 1 (.int .i64 m)
 exact ⟨⟨⟨m, hb⟩, fun t e => nd_set (h.nd t e) (h.out t e) _, h.wf, h.ndp, h.sz⟩, hb⟩
theorem TR.ov {w W : World} {g : Nat} {o : Option Tk} {n0 : Nat} {X : List Nat} (h : TR w g o) (hO : Ov n0 X w W) (hg : ∀ q ∈ g :: blo o, q < n0 ∧ q ∉ X) : TR W g o :=
 ⟨let ⟨n, hB⟩ := h.blk; ⟨n, ⟨(hO.block g (hg g (by simp)).1 (hg g (by simp)).2).trans hB.out⟩⟩, fun t e => hO.nd (h.nd t e) fun q hq => hg q (by subst e; simp [blo, hq]), h.wf, h.ndp, h.sz⟩
theorem TR.all_lt {w : World} {g : Nat} {o : Option Tk} (h : TR w g o) : ∀ q ∈ g :: blo o, q < w.heap.size := by
 intro q hq
 rcases List.mem_cons.1 hq with rfl | hq
 ·exact h.lt
 ·cases o with
  | none => cases hq
  | some t => obtain ⟨cs, hB⟩ := (h.nd t rfl).lt q hq; exact hB.lt
end Go.Proofs.YtjlaffgbmcpldaaGreatDoor
namespace Go.Proofs.YtjlaffgbmcpldaaGreatDoor
open Go.RowKit
attribute [local go_sem ↓] Go.wp_at_zero Go.wp_at_succ ld_k lv_k st_k eq_k ne_k bd_k ld_b lv_b st_b eq_b ne_b bd_25 ld_r lv_r st_rk eq_rk ne_rk bd_r ld_p lv_p st_px bd_p Nm.ld_a Nm.ld_n Nm.st_a Nm.st_n Nm.eq_a Nm.eq_n Nm.ne_a Nm.ne_n Nm.lv_a Nm.lv_n ld_a ld_n st_a st_n eq_a eq_n ne_a ne_n lv_a lv_n ld_l lv_l st_l bd_l bd_n bs_k
attribute [local go_sem] run_ldk run_lvk run_stk run_eqk run_nek run_bdk_z run_ldb run_lvb run_stb run_eqb run_neb run_ldr run_lvr run_strk run_eqrk run_nerk run_bdr_z run_ldp run_lvp run_stpx Nm.run_ld_a Nm.run_ld_n Nm.run_st_n Nm.run_eq_a Nm.run_eq_n Nm.run_ne_a Nm.run_ne_n Nm.run_lv_a Nm.run_lv_n Nm.rd_new Nm.rd_old Nm.rd_drew Nm.rd_drewN run_ld_a run_ld_n run_sw_a run_sw_n run_eq_a run_eq_n run_ne_a run_ne_n run_lv_a run_lv_n st_z ne_z eq_z rd_new rd_old rd_drew rd_drewN Shp.rd_new Shp.rd_old Shp.rd_drew Shp.rd_drewN Shp.rd_set Shp.tn_new Shp.tn_old Shp.tn_drew Shp.tn_drewN tn_new tn_old tn_drew tn_drewN rd_set setRow_alloc run_stn3 run_stt15 run_lvl run_ldl run_stl run_bdl run_bdn run_bdn0 run_bsk Shp.rd_extk cell_ext
set_option maxHeartbeats 8000000 in
theorem add_none (g : Nat) (k : D.Ky) (v : Vl) (w : World) (hT : TC w g none) : Calls Tryz.prog 122 #[.pointer (some ⟨g, 0, none⟩), .agg (lS.v (k, v))] w fun e w' => (∃ u, e = .returned u) ∧ ∃ A, w.heap.size ≤ A ∧ TC w' g (some (.lf A k v)) ∧ Ov w.heap.size [g] w w' := by
 have hsz0 : (Cr.Tr.lso (none : Option Tk)).length < 1000 := by decide
 obtain ⟨o, ho⟩ : ∃ o : Option Tk, o = none := ⟨_, rfl⟩
 rw [← ho] at hT hsz0
 have hg := hT.tr.lt
 obtain ⟨w0, hw0⟩ : ∃ w0, w.alloc (.cells (lS.v (k, v)) 217) = w0 := ⟨_, rfl⟩
 have fl0 : lS.rd w0 ⟨w.heap.size, 0, none⟩ = some (k, v) := by rw [← hw0]; exact Shp.rd_new _ _ _ _ rfl
 have b0 : Below w.heap.size w w0 := by rw [← hw0]; exact below_alloc_ _ _
 have hz0 : w0.heap.size = w.heap.size + 1 := by rw [← hw0]; simp
 have hT0 := hT.on b0
 have hB0 := hT0.blk
 obtain ⟨n, hn⟩ : ∃ n, (Cr.Tr.lso o).length = n := ⟨_, rfl⟩
 have hsz : n < 1000 := by omega
 have hc0 := hT0.cnt
 rw [hn] at hB0 hc0
 have hf0 := hB0.f 1
 have i0 : (0 : Int) ≤ (n : Int) := by omega
 have i1 : (n : Int) < 1000 := by omega
 obtain ⟨w1, hw1⟩ : ∃ w1, w0.setCell ⟨g, 1, none⟩ (.int .i64 ((n : Int) + 1)) = w1 := ⟨_, rfl⟩
 obtain ⟨hT1, hB1⟩ := hT0.tr.count hB0 ((n : Int) + 1)
 have hO1 : Ov w.heap.size (g :: blo o) w w1 := by rw [← hw1]; exact ((Ov.refl _ _ _).on (Nat.le_refl _) b0).set (by simp) _
 have fl1 : lS.rd w1 ⟨w.heap.size, 0, none⟩ = some (k, v) := by rw [← hw1]; exact (Shp.rd_setCell _ _ _ _ (by simp; omega)).trans fl0
 have hz1 : w1.heap.size = w.heap.size + 1 := by rw [← hw1]; simp [World.setCell, hz0]
 rw [hw1] at hT1 hB1
 obtain ⟨w2, hw2⟩ : ∃ w2, w1.alloc (.cells (ndc 200 none none (k, v)) nT) = w2 := ⟨_, rfl⟩
 have b2 : Below w1.heap.size w1 w2 := by rw [← hw2]; exact below_alloc_ _ _
 have hO2 : Ov w.heap.size (g :: blo o) w w2 := hO1.on (Nat.le_refl _) b2
 have hA2 : Blk w2 w1.heap.size nT (ndc 200 none none (k, v)) := by rw [← hw2]; exact Blk.new _ _ _
 have hT2 := hT1.on b2
 have hB2 := hB1.on b2
 have fl2 := Shp.rd_on fl1 b2
 have fk2 : kS.rd w2 ⟨w.heap.size, 0, none⟩ = some k := (lf_of fl2).1
 have hz2 : w2.heap.size = w.heap.size + 2 := by rw [← hw2]; simp [hz1]
 rw [hz1] at hA2
 have CP := Lib.hid (place200 g o k w2 hT2)
 unfold nT at hw2
 subst ho
 have hs2 : subo k 200 (none : Option Tk) = none := rfl
 clear fl0 hT0 hf0 hT1 hB1 b0 b2
 have hf0 := hB0.f 1
 go_enter Tryz.func122, Tryz.ntmps122
 go_wp2_with fail
 try rw [hw0]
 clear hw0
 go_wp2_with fail
 try rw [hw1]
 clear hw1 hB0 hc0
 go_wp2_with fail
 try rw [hw2]
 clear hw2
 go_wp2_with (go_at_call 105; (with_reducible refine CP.out.mono ?_); rintro e w3 ⟨rfl, b3⟩; have hc : w3.cell? (plc k ⟨g, 0, none⟩ (pth k 200 none)) = some (.pointer none) := (hT2.on b3).sub_cell (Nat.le_refl _); have hB3 := hB2.on b3; have hc4 := (hT2.on b3).root; have hf4 := hB3.f 0)
 obtain ⟨h1, h2⟩ := tr_one (hA2.on b3) hB3
 refine bodyPost_ret (results_none rfl _ _ _) rfl ?_
 refine ⟨⟨_, rfl⟩, w.heap.size + 1, by omega, TC.of h1 (by rw [show ((Cr.Tr.lso (some (Cr.Tr.lf (w.heap.size + 1) k v) : Option Tk)).length : Int) = (n : Int) + 1 by rw [← hn]; rfl]; exact h2), ?_⟩
 exact ((hO2.on (Nat.le_refl _) b3).set (by simp) _)
set_option maxHeartbeats 16000000 in
theorem add_some (g : Nat) (t : Tk) (k : D.Ky) (v : Vl) (w : World) (hT : TC w g (some t)) (hnot : Cr.has k t.ls = false) (hsz0 : t.ls.length < 1000) : Calls Tryz.prog 122 #[.pointer (some ⟨g, 0, none⟩), .agg (lS.v (k, v))] w fun e w' => (∃ u, e = .returned u) ∧ ∃ A C r, w.heap.size ≤ A ∧ w.heap.size ≤ C ∧ TC w' g (some (t.ins k v r A C)) ∧ (t.ins k v r A C).ls = Cr.put k v t.ls ∧ Ov w.heap.size (g :: t.bl) w w' := by
 have hsz1 : (Cr.Tr.lso (some t)).length < 1000 := hsz0
 obtain ⟨o, ho⟩ : ∃ o : Option Tk, o = some t := ⟨_, rfl⟩
 rw [← ho] at hT hsz1
 have hg := hT.tr.lt
 obtain ⟨w0, hw0⟩ : ∃ w0, w.alloc (.cells (lS.v (k, v)) 217) = w0 := ⟨_, rfl⟩
 have fl0 : lS.rd w0 ⟨w.heap.size, 0, none⟩ = some (k, v) := by rw [← hw0]; exact Shp.rd_new _ _ _ _ rfl
 have b0 : Below w.heap.size w w0 := by rw [← hw0]; exact below_alloc_ _ _
 have hz0 : w0.heap.size = w.heap.size + 1 := by rw [← hw0]; simp
 have hT0 := hT.on b0
 have hB0 := hT0.blk
 obtain ⟨n, hn⟩ : ∃ n, (Cr.Tr.lso o).length = n := ⟨_, rfl⟩
 have hsz : n < 1000 := by omega
 have hc0 := hT0.cnt
 rw [hn] at hB0 hc0
 have hf0 := hB0.f 1
 have i0 : (0 : Int) ≤ (n : Int) := by omega
 have i1 : (n : Int) < 1000 := by omega
 obtain ⟨w1, hw1⟩ : ∃ w1, w0.setCell ⟨g, 1, none⟩ (.int .i64 ((n : Int) + 1)) = w1 := ⟨_, rfl⟩
 obtain ⟨hT1, hB1⟩ := hT0.tr.count hB0 ((n : Int) + 1)
 have hO1 : Ov w.heap.size (g :: blo o) w w1 := by rw [← hw1]; exact ((Ov.refl _ _ _).on (Nat.le_refl _) b0).set (by simp) _
 have fl1 : lS.rd w1 ⟨w.heap.size, 0, none⟩ = some (k, v) := by rw [← hw1]; exact (Shp.rd_setCell _ _ _ _ (by simp; omega)).trans fl0
 have hz1 : w1.heap.size = w.heap.size + 1 := by rw [← hw1]; simp [World.setCell, hz0]
 rw [hw1] at hT1 hB1
 obtain ⟨w2, hw2⟩ : ∃ w2, w1.alloc (.cells (ndc 200 none none (k, v)) nT) = w2 := ⟨_, rfl⟩
 have b2 : Below w1.heap.size w1 w2 := by rw [← hw2]; exact below_alloc_ _ _
 have hO2 : Ov w.heap.size (g :: blo o) w w2 := hO1.on (Nat.le_refl _) b2
 have hA2 : Blk w2 w1.heap.size nT (ndc 200 none none (k, v)) := by rw [← hw2]; exact Blk.new _ _ _
 have hT2 := hT1.on b2
 have hB2 := hB1.on b2
 have fl2 := Shp.rd_on fl1 b2
 have fk2 : kS.rd w2 ⟨w.heap.size, 0, none⟩ = some k := (lf_of fl2).1
 have hz2 : w2.heap.size = w.heap.size + 2 := by rw [← hw2]; simp [hz1]
 rw [hz1] at hA2
 have CP := Lib.hid (place200 g o k w2 hT2)
 unfold nT at hw2
 subst ho
 obtain ⟨a, x, u, hnr⟩ := Cr.Tr.near_lf k t
 have hs2 := subo_near hT.tr k
 rw [hnr] at hs2
 have hpar0 := near_ne (hT.tr.wf t rfl) hnot
 have CPa := Lib.hid (fun w => parting_any x k w)
 obtain ⟨r, hr⟩ : ∃ r, Cr.par x k = r := ⟨_, rfl⟩
 have hpar : Cr.par (t.near k).hd.1 k = r := by rw [hnr]; exact hr
 have hrl : r < 200 := by rw [← hpar]; exact hpar0
 rw [hr] at CPa
 have HN := Lib.hid (fun w1 (hT1 : TR w1 g (some t)) => show NF w1 a 200 none none (x, u) from by have := (nd_near hT1 k).nf; rw [hnr] at this; exact this)
 have CB := Lib.hid (fun w => kbytes_any k w)
 have CS := Lib.hid (fun w => side_any k r hrl w)
 clear fl0 hT0 hf0 hT1 hB1 b0 b2 hr hpar0
 have hf0 := hB0.f 1
 go_enter Tryz.func122, Tryz.ntmps122
 go_wp2_with fail
 try rw [hw0]
 clear hw0
 go_wp2_with fail
 try rw [hw1]
 clear hw1 hB0 hc0
 go_wp2_with fail
 try rw [hw2]
 clear hw2
 go_wp2_with (go_at_call 105; (with_reducible refine CP.out.mono ?_); rintro e w3 ⟨rfl, b3⟩; have hc : w3.cell? (plc k ⟨g, 0, none⟩ (pth k 200 (some t))) = some (.pointer (some ⟨a, 0, none⟩)) := by { have := (hT2.on b3).sub_cell (k := k) (Nat.le_refl 200); rw [hs2] at this; exact this })
 have hT3 := hT2.on b3
 have hB3 := hB2.on b3
 have hA3 := hA2.on b3
 have f3 := Shp.rd_on fk2 b3
 have k3 := (HN.out _ hT3).key
 have hO3 := hO2.on (Nat.le_refl _) b3
 have hz3 : w.heap.size + 2 ≤ w3.heap.size := by have := b3.size; omega
 clear hT2 hB2 hA2 fk2 fl2 fl1 hO1 hO2 b3 hc CP HN
 go_cut [6] from 31 (fun s6 wx => ∃ c : Nat, s6 = .pointer (some ⟨c, 0, none⟩) ∧ w3.heap.size ≤ c ∧ Blk wx c nT (ndc r none none (D.zK, none)) ∧ Below w3.heap.size w3 wx)
 case first =>
  refine wp_region_noPanic ?_
  have sd3 : Below w3.heap.size w3 w3.drew := (Below.refl _ _).drew
  refine wp_region_held_drew (S := fun V => Below w3.heap.size w3 V) (by kernel_rfl) sd3 (fun _ => ?_)
  refine takeT 0 (some 31) ?vc0 ?hyc0 sd3 ?restc0
  case hyc0 => (intro o ho W hW; simp only [gT, gS, gZ, sI] at ho; subst ho; (try dsimp only at hW); go_simp; try rfl)
  try simp only [Act.put, iT, iZ, iS]
  refine takeT 1 (some 32) ?vc1 ?hyc1 sd3 ?restc1
  case hyc1 => (intro o ho W hW; simp only [gT, gS, gZ, sI] at ho; subst ho; (try dsimp only at hW); go_simp; try rfl)
  try simp only [Act.put, iT, iZ, iS]
  refine takeT 2 (some 33) ?vc2 ?hyc2 sd3 ?restc2
  case hyc2 => (intro o ho W hW; simp only [gT, gS, gZ, sI] at ho; subst ho; (try dsimp only at hW); go_simp; try rfl)
  try simp only [Act.put, iT, iZ, iS]
  refine takeT 3 (some 34) ?vc3 ?hyc3 sd3 ?restc3
  case hyc3 => (intro o ho W hW; simp only [gT, gS, gZ, sI] at ho; subst ho; (try dsimp only at hW); go_simp; try rfl)
  try simp only [Act.put, iT, iZ, iS]
  refine takeT 4 (some 35) ?vc4 ?hyc4 sd3 ?restc4
  case hyc4 => (intro o ho W hW; simp only [gT, gS, gZ, sI] at ho; subst ho; (try dsimp only at hW); have g1 := Shp.rd_on k3 hW; go_simp; try rfl)
  try simp only [Act.put, iT, iZ, iS]
  refine takeT 5 (some 36) ?vc5 ?hyc5 sd3 ?restc5
  case hyc5 => (intro o ho W hW; simp only [gT, gS, gZ, sI] at ho; subst ho; (try dsimp only at hW); go_simp; try rfl)
  try simp only [Act.put, iT, iZ, iS]
  refine takeT 6 (some 37) ?vc6 ?hyc6 sd3 ?restc6
  case hyc6 => (intro o ho W hW; simp only [gT, gS, gZ, sI] at ho; subst ho; (try dsimp only at hW); have g2 := Shp.rd_on f3 hW; go_simp; try rfl)
  try simp only [Act.put, iT, iZ, iS]
  refine nextS 7 (by kernel_rfl) (by rfl) (fun o ho K hK => ?_)
  simp only [gT, gS, gZ, sI] at ho; subst ho
  go_simp
  (go_at_call 130; (with_reducible refine (CPa.out _).mono ?_); rintro e w4 ⟨rfl, b4⟩)
  have s4 : Below w3.heap.size w3 w4 := below_up sd3 sd3.size b4
  refine hK.out _ _ s4 (fun _ => ?_)
  clear hK K
  try simp only [Act.put, iT, iZ, iS]
  refine takeT 8 (some 39) ?vc8 ?hyc8 s4 ?restc8
  case hyc8 => (intro o ho W hW; simp only [gT, gS, gZ, sI] at ho; subst ho; (try dsimp only at hW); go_simp; try rfl)
  try simp only [Act.put, iT, iZ, iS]
  refine nextS 9 (by kernel_rfl) (by rfl) (fun o ho K hK => ?_)
  simp only [gT, gS, gZ, sI] at ho; subst ho
  go_simp
  have s5 : Below w3.heap.size w3 (w4.alloc (.cells (ndc (r : Nat) none none (D.zK, none)) 243)) := s4.alloc s4.size _
  refine hK.out _ _ s5 (fun _ => ?_)
  clear hK K
  try simp only [Act.put, iT, iZ, iS]
  refine takeT 10 (some 6) ?vc10 ?hyc10 s5 ?restc10
  case hyc10 => (intro o ho W hW; simp only [gT, gS, gZ, sI] at ho; subst ho; (try dsimp only at hW); go_simp; try rfl)
  try simp only [Act.put, iT, iZ, iS]
  refine wpAnyH_done (by kernel_rfl) ?_ _
  refine NoPanic.normal ?_
  go_wp2_with fail
  go_meet
  exact ⟨_, rfl, s4.size, Blk.new _ _ _, s5⟩
 case rest =>
  obtain ⟨c, rfl, hcz, BC, b5⟩ := hcut
  have hT5 := hT3.on b5
  have hB5 := hB3.on b5
  have hA5 := hA3.on b5
  have f5 := Shp.rd_on f3 b5
  have hO5 := hO3.on (by omega) b5
  have cb := (nf_of BC).bit
  have lc := BC.lt
  have lf5 := Shp.rd_lt f5
  have hz5 : w.heap.size + 2 ≤ wc.heap.size := by have := b5.size; omega
  have hq9 : ∀ q ∈ g :: blo (some t), q ∉ [c] := by
   intro q hq
   have := hT3.all_lt q hq
   simp only [List.mem_singleton]
   omega
  have CQ := Lib.hid (fun q => place_any g (some t) k r (by omega) (ext wc q) (hT5.on (ext_below wc q)))
  have hpb : (plc k ⟨g, 0, none⟩ (pth k r (some t))).block ∈ g :: t.bl := plc_blk hT5
  clear hT3 hB3 hA3 f3 hO3 b5 CPa k3
  obtain ⟨p, ep⟩ : ∃ p, plc k ⟨g, 0, none⟩ (pth k r (some t)) = p := ⟨_, rfl⟩
  rw [ep] at CQ hpb
  obtain ⟨s, es⟩ : ∃ s, (t.sub k r).ad = s := ⟨_, rfl⟩
  have hsd2 : (Cr.Bits.bt k r = true ∧ D.sd k r = 1) ∨ (Cr.Bits.bt k r = false ∧ D.sd k r = 0) := by
   unfold D.sd
   cases Cr.Bits.bt k r
   ·exact .inr ⟨rfl, rfl⟩
   ·exact .inl ⟨rfl, rfl⟩
  rcases hsd2 with ⟨hbt, hs1⟩ | ⟨hbt, hs1⟩
  all_goals
   rw [hs1] at CS
   go_wp2_with fail
   refine wp_region_ext (by kernel_rfl) (by kernel_rfl) ?_
   repeat (go_big_quiet_step (first
    | (go_at_call 105; with_reducible exact calls_ext (CQ.out _))
    | (go_at_call 131; with_reducible exact calls_ext (CB.out _))
    | (go_at_call 132; with_reducible exact calls_ext (CS.out _))))
   refine wpQuiet_nil ?_
   intro w7 hw7
   have b7 := ext_to hw7
   clear hw7
   have hT7 := hT5.on b7
   have hB7 := hB5.on b7
   have hA7 := hA5.on b7
   have BC := BC.on b7
   have hO7 := hO5.on (by omega) b7
   have hz7 : w.heap.size + 2 ≤ w7.heap.size := by have := b7.size; omega
   have hc7 : w7.cell? p = some (.pointer (some ⟨s, 0, none⟩)) := by
    rw [← ep, ← es]
    exact hT7.sub_cell (by omega)
   have lp := World.block_lt_of_cell? w7 p hc7
   have np := hq9 p.block hpb
   have hAn : w.heap.size + 1 ∉ t.bl := fun h => by have := hT.tr.all_lt _ (List.mem_cons_of_mem g h); omega
   have hCn : c ∉ t.bl := fun h => hq9 c (List.mem_cons_of_mem g h) (by simp)
   go_wp2_with fail
  ·skip
   refine wp_region_noPanic ?_
   have sd7 : Ov w7.heap.size [c] w7 w7.drew := (Ov.refl _ _ _).on (Nat.le_refl _) (Below.refl _ _).drew
   refine wp_region_held_drew (S := fun V => Ov w7.heap.size [c] w7 V) (by kernel_rfl) sd7 (fun _ => ?_)
   have BC0 : Blk w7.drew c nT (ndc r none none (D.zK, none)) := BC.drew
   obtain ⟨wd, hwd⟩ : ∃ wd, w7.drew = wd := ⟨_, rfl⟩
   rw [hwd] at sd7 BC0
   rw [hwd]
   clear hwd
   refine takeT 0 (some 57) ?vd10 ?hyd10 sd7 ?restd10
   case hyd10 => (intro o ho W hW; simp only [gT, gS, gZ, sI] at ho; subst ho; (try dsimp only at hW); go_simp; try rfl)
   try simp only [Act.put, iT, iZ, iS]
   refine takeT 1 (some 58) ?vd11 ?hyd11 sd7 ?restd11
   case hyd11 => (intro o ho W hW; simp only [gT, gS, gZ, sI] at ho; subst ho; (try dsimp only at hW); go_simp; try rfl)
   try simp only [Act.put, iT, iZ, iS]
   refine takeT 2 (some 59) ?vd12 ?hyd12 sd7 ?restd12
   case hyd12 => (intro o ho W hW; simp only [gT, gS, gZ, sI] at ho; subst ho; (try dsimp only at hW); go_simp; try rfl)
   try simp only [Act.put, iT, iZ, iS]
   refine takeT 3 (some 60) ?vd13 ?hyd13 sd7 ?restd13
   case hyd13 => (intro o ho W hW; simp only [gT, gS, gZ, sI] at ho; subst ho; (try dsimp only at hW); go_simp; try rfl)
   try simp only [Act.put, iT, iZ, iS]
   refine takeT 4 (some 61) (.int .i64 0) ?hyd14 sd7 ?restd14
   case hyd14 => (intro o ho W hW; simp only [gT, gS, gZ, sI] at ho; subst ho; (try dsimp only at hW); go_simp; try rfl)
   try simp only [Act.put, iT, iZ, iS]
   refine takeT 5 (some 62) ?vd15 ?hyd15 sd7 ?restd15
   case hyd15 => (intro o ho W hW; simp only [gT, gS, gZ, sI] at ho; subst ho; (try dsimp only at hW); go_simp; try rfl)
   try simp only [Act.put, iT, iZ, iS]
   refine takeT 6 (some 63) ?vd16 ?hyd16 sd7 ?restd16
   case hyd16 => (intro o ho W hW; simp only [gT, gS, gZ, sI] at ho; subst ho; (try dsimp only at hW); go_simp; try rfl)
   try simp only [Act.put, iT, iZ, iS]
   refine takeT 7 (some 64) ?vd17 ?hyd17 sd7 ?restd17
   case hyd17 => (intro o ho W hW; simp only [gT, gS, gZ, sI] at ho; subst ho; (try dsimp only at hW); go_simp; try rfl)
   try simp only [Act.put, iT, iZ, iS]
   refine takeT 8 (some 65) ?vd18 ?hyd18 sd7 ?restd18
   case hyd18 => (intro o ho W hW; simp only [gT, gS, gZ, sI] at ho; subst ho; (try dsimp only at hW); have g1 := (World.cell?_of_block (hW.block p.block lp np)).trans hc7; go_simp; try rfl)
   try simp only [Act.put, iT, iZ, iS]
   refine takeT 9 (some 66) ?vd19 ?hyd19 sd7 ?restd19
   case hyd19 => (intro o ho W hW; simp only [gT, gS, gZ, sI] at ho; subst ho; (try dsimp only at hW); go_simp; try rfl)
   try simp only [Act.put, iT, iZ, iS]
   refine takeT 10 (some 67) ?vd110 ?hyd110 sd7 ?restd110
   case hyd110 => (intro o ho W hW; simp only [gT, gS, gZ, sI] at ho; subst ho; (try dsimp only at hW); go_simp; try rfl)
   try simp only [Act.put, iT, iZ, iS]
   refine takeT 11 (some 68) (.pointer (some ⟨c, 2, none⟩)) ?hyd111 sd7 ?restd111
   case hyd111 => (intro o ho W hW; simp only [gT, gS, gZ, sI] at ho; subst ho; (try dsimp only at hW); go_simp; try rfl)
   try simp only [Act.put, iT, iZ, iS]
   refine takeT 13 (some 69) ?vd113 ?hyd113 sd7 ?restd113
   case hyd113 => (intro o ho W hW; simp only [gT, gS, gZ, sI] at ho; subst ho; (try dsimp only at hW); go_simp; try rfl)
   try simp only [Act.put, iT, iZ, iS]
   refine takeT 14 (some 70) ?vd114 ?hyd114 sd7 ?restd114
   case hyd114 => (intro o ho W hW; simp only [gT, gS, gZ, sI] at ho; subst ho; (try dsimp only at hW); go_simp; try rfl)
   try simp only [Act.put, iT, iZ, iS]
   have hcA := (nf_of BC0).hi
   have hfA := BC0.f 2
   have hcB0 := (nf_of BC0).lo
   have hfB0 := BC0.f 1
   refine nextS 12 (by kernel_rfl) (by rfl) (fun o ho K hK => ?_)
   simp only [gT, gS, gZ, sI] at ho; subst ho
   go_simp
   have BC1 := BC0.put 2 (.pointer (some ⟨w.heap.size + 1, 0, none⟩))
   rw [ndc_hi] at BC1
   have s8 := sd7.set (a := ⟨c, 2, none⟩) (by simp) (.pointer (some ⟨w.heap.size + 1, 0, none⟩))
   refine hK.out _ _ s8 (fun _ => ?_)
   clear hK K
   try simp only [Act.put, iT, iZ, iS]
   refine takeT 15 (some 71) (.pointer (some ⟨c, 1, none⟩)) ?hyd115 s8 ?restd115
   case hyd115 => (intro o ho W hW; simp only [gT, gS, gZ, sI] at ho; subst ho; (try dsimp only at hW); go_simp; try rfl)
   try simp only [Act.put, iT, iZ, iS]
   have hcB := (nf_of BC1).lo
   have hfB := BC1.f 1
   refine nextS 16 (by kernel_rfl) (by rfl) (fun o ho K hK => ?_)
   simp only [gT, gS, gZ, sI] at ho; subst ho
   go_simp
   have BC2 := BC1.put 1 (.pointer (some ⟨s, 0, none⟩))
   rw [ndc_lo] at BC2
   have s9 := s8.set (a := ⟨c, 1, none⟩) (by simp) (.pointer (some ⟨s, 0, none⟩))
   refine hK.out _ _ s9 (fun _ => ?_)
   clear hK K
   try simp only [Act.put, iT, iZ, iS]
   refine wpAnyH_done (by kernel_rfl) ?_ _
   refine NoPanic.normal ?_
   obtain ⟨w9, hw9⟩ : ∃ w9, (wd.setCell ⟨c, 2, none⟩ (.pointer (some ⟨w.heap.size + 1, 0, none⟩))).setCell ⟨c, 1, none⟩ (.pointer (some ⟨s, 0, none⟩)) = w9 := ⟨_, rfl⟩
   rw [hw9] at BC2 s9
   try rw [hw9]
   clear hw9 BC1 BC0 hcA hfA hcB hfB hcB0 hfB0 s8
   have hT9 : TR w9 g (some t) := hT7.ov s9 (fun q hq => ⟨hT7.all_lt q hq, hq9 q hq⟩)
   have hB9 : Blk w9 g 177 #[.pointer (pt (some t)), .int .i64 ((n : Int) + 1)] := ⟨(s9.block g hT7.lt (hq9 g (by simp))).trans hB7.out⟩
   have hA9 : Blk w9 (w.heap.size + 1) nT (ndc 200 none none (k, v)) := ⟨(s9.block _ hA7.lt (by simp; omega)).trans hA7.out⟩
   have hcp := (World.cell?_of_block (s9.block p.block lp np)).trans hc7
   have hfp : w9.frozen? p = false := by rw [← ep]; exact hT9.free
   have hC9 : Blk w9 c nT (newc k r (w.heap.size + 1) (t.sub k r).ad) := by
    rw [es]
    unfold newc
    rw [if_pos hbt]
    exact BC2
   obtain ⟨t1, t2⟩ := tr_ins hT9 hnot hpar hB9 hAn hCn (by omega) hA9 hC9 hsz0
   rw [ep] at t1 t2
   have hls := ls_ins (v := v) (a := w.heap.size + 1) (c := c) (hT9.wf t rfl) hnot hpar hrl
   have hlen : ((Cr.Tr.lso (some (t.ins k v r (w.heap.size + 1) c))).length : Int) = (n : Int) + 1 := by
    show ((t.ins k v r (w.heap.size + 1) c).ls.length : Int) = _
    rw [hls, Cr.put_new (Cr.Tr.sorted (hT9.wf t rfl)) hnot, ← hn]
    rfl
   have hF : Ov w.heap.size (g :: t.bl) w (w9.setCell p (.pointer (some ⟨c, 0, none⟩))) := ((hO7.trans ⟨s9.os, s9.tape, s9.output, s9.size, fun q h1 h2 => s9.block q (by omega) (by simp; omega)⟩)).set hpb _
   clear s9 hc7 hT7 hA7
   go_wp2
   go_end0
   exact ⟨⟨_, rfl⟩, w.heap.size + 1, c, r, by omega, by omega, TC.of t1 (by rw [hlen]; exact t2), hls, hF⟩
  ·skip
   refine wp_region_noPanic ?_
   have sd7 : Ov w7.heap.size [c] w7 w7.drew := (Ov.refl _ _ _).on (Nat.le_refl _) (Below.refl _ _).drew
   refine wp_region_held_drew (S := fun V => Ov w7.heap.size [c] w7 V) (by kernel_rfl) sd7 (fun _ => ?_)
   have BC0 : Blk w7.drew c nT (ndc r none none (D.zK, none)) := BC.drew
   obtain ⟨wd, hwd⟩ : ∃ wd, w7.drew = wd := ⟨_, rfl⟩
   rw [hwd] at sd7 BC0
   rw [hwd]
   clear hwd
   refine takeT 0 (some 57) ?vd00 ?hyd00 sd7 ?restd00
   case hyd00 => (intro o ho W hW; simp only [gT, gS, gZ, sI] at ho; subst ho; (try dsimp only at hW); go_simp; try rfl)
   try simp only [Act.put, iT, iZ, iS]
   refine takeT 1 (some 58) ?vd01 ?hyd01 sd7 ?restd01
   case hyd01 => (intro o ho W hW; simp only [gT, gS, gZ, sI] at ho; subst ho; (try dsimp only at hW); go_simp; try rfl)
   try simp only [Act.put, iT, iZ, iS]
   refine takeT 2 (some 59) ?vd02 ?hyd02 sd7 ?restd02
   case hyd02 => (intro o ho W hW; simp only [gT, gS, gZ, sI] at ho; subst ho; (try dsimp only at hW); go_simp; try rfl)
   try simp only [Act.put, iT, iZ, iS]
   refine takeT 3 (some 60) ?vd03 ?hyd03 sd7 ?restd03
   case hyd03 => (intro o ho W hW; simp only [gT, gS, gZ, sI] at ho; subst ho; (try dsimp only at hW); go_simp; try rfl)
   try simp only [Act.put, iT, iZ, iS]
   refine takeT 4 (some 61) (.int .i64 1) ?hyd04 sd7 ?restd04
   case hyd04 => (intro o ho W hW; simp only [gT, gS, gZ, sI] at ho; subst ho; (try dsimp only at hW); go_simp; try rfl)
   try simp only [Act.put, iT, iZ, iS]
   refine takeT 5 (some 62) ?vd05 ?hyd05 sd7 ?restd05
   case hyd05 => (intro o ho W hW; simp only [gT, gS, gZ, sI] at ho; subst ho; (try dsimp only at hW); go_simp; try rfl)
   try simp only [Act.put, iT, iZ, iS]
   refine takeT 6 (some 63) ?vd06 ?hyd06 sd7 ?restd06
   case hyd06 => (intro o ho W hW; simp only [gT, gS, gZ, sI] at ho; subst ho; (try dsimp only at hW); go_simp; try rfl)
   try simp only [Act.put, iT, iZ, iS]
   refine takeT 7 (some 64) ?vd07 ?hyd07 sd7 ?restd07
   case hyd07 => (intro o ho W hW; simp only [gT, gS, gZ, sI] at ho; subst ho; (try dsimp only at hW); go_simp; try rfl)
   try simp only [Act.put, iT, iZ, iS]
   refine takeT 8 (some 65) ?vd08 ?hyd08 sd7 ?restd08
   case hyd08 => (intro o ho W hW; simp only [gT, gS, gZ, sI] at ho; subst ho; (try dsimp only at hW); have g1 := (World.cell?_of_block (hW.block p.block lp np)).trans hc7; go_simp; try rfl)
   try simp only [Act.put, iT, iZ, iS]
   refine takeT 9 (some 66) ?vd09 ?hyd09 sd7 ?restd09
   case hyd09 => (intro o ho W hW; simp only [gT, gS, gZ, sI] at ho; subst ho; (try dsimp only at hW); go_simp; try rfl)
   try simp only [Act.put, iT, iZ, iS]
   refine takeT 10 (some 67) ?vd010 ?hyd010 sd7 ?restd010
   case hyd010 => (intro o ho W hW; simp only [gT, gS, gZ, sI] at ho; subst ho; (try dsimp only at hW); go_simp; try rfl)
   try simp only [Act.put, iT, iZ, iS]
   refine takeT 11 (some 68) (.pointer (some ⟨c, 1, none⟩)) ?hyd011 sd7 ?restd011
   case hyd011 => (intro o ho W hW; simp only [gT, gS, gZ, sI] at ho; subst ho; (try dsimp only at hW); go_simp; try rfl)
   try simp only [Act.put, iT, iZ, iS]
   refine takeT 13 (some 69) ?vd013 ?hyd013 sd7 ?restd013
   case hyd013 => (intro o ho W hW; simp only [gT, gS, gZ, sI] at ho; subst ho; (try dsimp only at hW); go_simp; try rfl)
   try simp only [Act.put, iT, iZ, iS]
   refine takeT 14 (some 70) ?vd014 ?hyd014 sd7 ?restd014
   case hyd014 => (intro o ho W hW; simp only [gT, gS, gZ, sI] at ho; subst ho; (try dsimp only at hW); go_simp; try rfl)
   try simp only [Act.put, iT, iZ, iS]
   have hcA := (nf_of BC0).lo
   have hfA := BC0.f 1
   have hcB0 := (nf_of BC0).hi
   have hfB0 := BC0.f 2
   refine nextS 12 (by kernel_rfl) (by rfl) (fun o ho K hK => ?_)
   simp only [gT, gS, gZ, sI] at ho; subst ho
   go_simp
   have BC1 := BC0.put 1 (.pointer (some ⟨w.heap.size + 1, 0, none⟩))
   rw [ndc_lo] at BC1
   have s8 := sd7.set (a := ⟨c, 1, none⟩) (by simp) (.pointer (some ⟨w.heap.size + 1, 0, none⟩))
   refine hK.out _ _ s8 (fun _ => ?_)
   clear hK K
   try simp only [Act.put, iT, iZ, iS]
   refine takeT 15 (some 71) (.pointer (some ⟨c, 2, none⟩)) ?hyd015 s8 ?restd015
   case hyd015 => (intro o ho W hW; simp only [gT, gS, gZ, sI] at ho; subst ho; (try dsimp only at hW); go_simp; try rfl)
   try simp only [Act.put, iT, iZ, iS]
   have hcB := (nf_of BC1).hi
   have hfB := BC1.f 2
   refine nextS 16 (by kernel_rfl) (by rfl) (fun o ho K hK => ?_)
   simp only [gT, gS, gZ, sI] at ho; subst ho
   go_simp
   have BC2 := BC1.put 2 (.pointer (some ⟨s, 0, none⟩))
   rw [ndc_hi] at BC2
   have s9 := s8.set (a := ⟨c, 2, none⟩) (by simp) (.pointer (some ⟨s, 0, none⟩))
   refine hK.out _ _ s9 (fun _ => ?_)
   clear hK K
   try simp only [Act.put, iT, iZ, iS]
   refine wpAnyH_done (by kernel_rfl) ?_ _
   refine NoPanic.normal ?_
   obtain ⟨w9, hw9⟩ : ∃ w9, (wd.setCell ⟨c, 1, none⟩ (.pointer (some ⟨w.heap.size + 1, 0, none⟩))).setCell ⟨c, 2, none⟩ (.pointer (some ⟨s, 0, none⟩)) = w9 := ⟨_, rfl⟩
   rw [hw9] at BC2 s9
   try rw [hw9]
   clear hw9 BC1 BC0 hcA hfA hcB hfB hcB0 hfB0 s8
   have hT9 : TR w9 g (some t) := hT7.ov s9 (fun q hq => ⟨hT7.all_lt q hq, hq9 q hq⟩)
   have hB9 : Blk w9 g 177 #[.pointer (pt (some t)), .int .i64 ((n : Int) + 1)] := ⟨(s9.block g hT7.lt (hq9 g (by simp))).trans hB7.out⟩
   have hA9 : Blk w9 (w.heap.size + 1) nT (ndc 200 none none (k, v)) := ⟨(s9.block _ hA7.lt (by simp; omega)).trans hA7.out⟩
   have hcp := (World.cell?_of_block (s9.block p.block lp np)).trans hc7
   have hfp : w9.frozen? p = false := by rw [← ep]; exact hT9.free
   have hC9 : Blk w9 c nT (newc k r (w.heap.size + 1) (t.sub k r).ad) := by
    rw [es]
    unfold newc
    rw [if_neg (by rw [hbt]; decide)]
    exact BC2
   obtain ⟨t1, t2⟩ := tr_ins hT9 hnot hpar hB9 hAn hCn (by omega) hA9 hC9 hsz0
   rw [ep] at t1 t2
   have hls := ls_ins (v := v) (a := w.heap.size + 1) (c := c) (hT9.wf t rfl) hnot hpar hrl
   have hlen : ((Cr.Tr.lso (some (t.ins k v r (w.heap.size + 1) c))).length : Int) = (n : Int) + 1 := by
    show ((t.ins k v r (w.heap.size + 1) c).ls.length : Int) = _
    rw [hls, Cr.put_new (Cr.Tr.sorted (hT9.wf t rfl)) hnot, ← hn]
    rfl
   have hF : Ov w.heap.size (g :: t.bl) w (w9.setCell p (.pointer (some ⟨c, 0, none⟩))) := ((hO7.trans ⟨s9.os, s9.tape, s9.output, s9.size, fun q h1 h2 => s9.block q (by omega) (by simp; omega)⟩)).set hpb _
   clear s9 hc7 hT7 hA7
   go_wp2
   go_end0
   exact ⟨⟨_, rfl⟩, w.heap.size + 1, c, r, by omega, by omega, TC.of t1 (by rw [hlen]; exact t2), hls, hF⟩
structure PutC (w : World) (g : Nat) (o : Option Tk) (k : D.Ky) (v : Vl) (w' : World) (o' : Option Tk) : Prop where
 tc : TC w' g o'
 ls : Cr.Tr.lso o' = Cr.put k v (Cr.Tr.lso o)
 ov : Ov w.heap.size (g :: blo o) w w'
 old : ∀ q ∈ blo o', q ∈ blo o ∨ w.heap.size ≤ q
theorem tc_upd {W : World} {g : Nat} {t : Tk} {k : D.Ky} {u v : Vl} {a : Nat} (hT : TC W g (some t)) (hk : t.near k = .lf a k v) : PutC W g (some t) k u (W.setCell ⟨a, 28, none⟩ (.pointer u)) (some (t.upd k u)) := by
 obtain ⟨h1, h2, h3, h4, h5⟩ := tr_upd (u := u) hT.tr hk hT.blk
 have hl : (Cr.Tr.lso (some (t.upd k u))).length = (Cr.Tr.lso (some t)).length := by
  show (t.upd k u).ls.length = t.ls.length
  rw [Cr.Tr.upd_ls (hT.tr.wf t rfl), List.length_map]
 refine ⟨TC.of h1 (by rw [hl]; exact h2), h3, (Ov.refl _ _ _).set (by simp [blo, h5]) _, fun q hq => .inl (by simp only [blo] at hq ⊢; rwa [h4] at hq)⟩
set_option maxHeartbeats 4000000 in
theorem put_any (g : Nat) (o : Option Tk) (k : D.Ky) (v : Vl) (w : World) (hT : TC w g o) (hsz : (Cr.Tr.lso o).length < 1000) : Calls Tryz.prog 93 #[.pointer (some ⟨g, 0, none⟩), .agg (kS.v k), .pointer v] w fun e w' => e = .returned (.bool (!Cr.has k (Cr.Tr.lso o))) ∧ ∃ o', PutC w g o k v w' o' := by
 obtain ⟨w0, hw0⟩ : ∃ w0, w.alloc (.cells (kS.v k) 39) = w0 := ⟨_, rfl⟩
 have f0 : kS.rd w0 ⟨w.heap.size, 0, none⟩ = some k := by rw [← hw0]; exact Shp.rd_new _ _ _ _ rfl
 have b0 : Below w.heap.size w w0 := by rw [← hw0]; exact below_alloc_ _ _
 have hT0 := hT.on b0
 have CH := Lib.hid (held_any g o k w0 hT0.tr)
 rcases hld_has hT.tr k with ⟨h1, h2⟩ | ⟨t, a, u, rfl, hn, h2, h3, hm⟩
 ·rw [h2] at CH
  rw [h1]
  have CA : ∀ w1, TC w1 g o → Calls Tryz.prog 122 #[.pointer (some ⟨g, 0, none⟩), .agg (lS.v (k, v))] w1 fun e w' => ∃ x, e = .returned x ∧ ∃ o', PutC w1 g o k v w' o' := by
   intro w1 hT1
   cases o with
   | none =>
    refine (add_none g k v w1 hT1).mono ?_
    rintro e w' ⟨⟨x, rfl⟩, A, hA, hT2, hO⟩
    refine ⟨x, rfl, _, hT2, rfl, hO, fun q hq => .inr ?_⟩
    have : q = A := by simpa [blo, Cr.Tr.bl] using hq
    omega
   | some t =>
    refine (add_some g t k v w1 hT1 h1 hsz).mono ?_
    rintro e w' ⟨⟨x, rfl⟩, A, C, r, hA, hC, hT2, hls, hO⟩
    refine ⟨x, rfl, _, hT2, hls, hO, fun q hq => ?_⟩
    have := (ins_bl t).mem_iff.1 hq
    simp only [List.mem_cons] at this
    rcases this with rfl | rfl | h
    ·exact .inr hC
    ·exact .inr hA
    ·exact .inl h
  have CA := Lib.hid CA
  clear h1 h2 hT hsz
  go_enter Tryz.func93, Tryz.ntmps93
  go_wp2_with fail
  try rw [hw0]
  clear hw0
  go_wp2_with (first
   | (go_at_call 121; (with_reducible refine CH.out.mono ?_); rintro e w1 ⟨rfl, b1⟩; have f1 := Shp.rd_on f0 b1; have hT1 := hT0.on b1; have z1 := below_up b0 b0.size b1)
   | (go_at_call 122; (with_reducible refine (CA.out _ hT1).mono ?_); rintro e w2 ⟨x, rfl, o', hP⟩; have HP := Lib.hid hP; clear hP))
  go_ret
  have hP := HP.out
  exact ⟨rfl, o', hP.tc, hP.ls, ⟨hP.ov.os.trans z1.os, hP.ov.tape.trans z1.tape, hP.ov.output.trans z1.output, Nat.le_trans z1.size hP.ov.size, fun q h1 h2 => (hP.ov.block q (Nat.lt_of_lt_of_le h1 z1.size) h2).trans (z1.block q h1)⟩, fun q hq => (hP.old q hq).imp id fun h => Nat.le_trans z1.size h⟩
 ·rw [h2] at CH
  rw [h3]
  have HN := Lib.hid hn
  clear h3 h2 hT hm hsz hn
  go_enter Tryz.func93, Tryz.ntmps93
  go_wp2_with fail
  try rw [hw0]
  clear hw0
  go_wp2_with (go_at_call 121; (with_reducible refine CH.out.mono ?_); rintro e w1 ⟨rfl, b1⟩; have z1 := below_up b0 b0.size b1; have hT1 := hT0.on b1; have nf := lf_nf hT1.tr HN.out; have c1 := nf.thing; have hf1 : w1.frozen? ⟨a, 28, none⟩ = false := by { have := nd_near hT1.tr k; rw [HN.out] at this; exact Blk.f this 28 })
  go_ret
  have hP := tc_upd (u := v) hT1 HN.out
  exact ⟨rfl, _, hP.tc, hP.ls, ⟨hP.ov.os.trans z1.os, hP.ov.tape.trans z1.tape, hP.ov.output.trans z1.output, Nat.le_trans z1.size hP.ov.size, fun q h1 h2 => (hP.ov.block q (Nat.lt_of_lt_of_le h1 z1.size) h2).trans (z1.block q h1)⟩, fun q hq => (hP.old q hq).imp id fun h => Nat.le_trans z1.size h⟩
end Go.Proofs.YtjlaffgbmcpldaaGreatDoor
