/-
  The node of a key alone; the number by a key; how many.
  Trees in memory, changed: a node put in where bits lead, another number by a key.
-/
import Derived.Test.YtkhjnfplcaffnaaCpl
set_option linter.unusedVariables false
set_option linter.unusedSimpArgs false
set_option maxRecDepth 100000
namespace Go.Proofs.Ytkhjnfplcaffnaa
open Go.RowKit
attribute [local go_sem ↓] Go.wp_at_zero Go.wp_at_succ ld_k lv_k st_k eq_k ne_k bd_k ld_b lv_b st_b eq_b ne_b bd_25 ld_r lv_r st_rk eq_rk ne_rk bd_r ld_p lv_p st_px bd_p Nm.ld_a Nm.ld_n Nm.st_a Nm.st_n Nm.eq_a Nm.eq_n Nm.ne_a Nm.ne_n Nm.lv_a Nm.lv_n ld_a ld_n st_a st_n eq_a eq_n ne_a ne_n lv_a lv_n ld_l lv_l st_l bd_l bd_n bs_l bs_k
attribute [local go_sem] run_ldk run_lvk run_stk run_eqk run_nek run_bdk_z run_ldb run_lvb run_stb run_eqb run_neb run_ldr run_lvr run_strk run_eqrk run_nerk run_bdr_z run_ldp run_lvp run_stpx Nm.run_ld_a Nm.run_ld_n Nm.run_st_n Nm.run_eq_a Nm.run_eq_n Nm.run_ne_a Nm.run_ne_n Nm.run_lv_a Nm.run_lv_n Nm.rd_new Nm.rd_old Nm.rd_drew Nm.rd_drewN run_ld_a run_ld_n run_sw_a run_sw_n run_eq_a run_eq_n run_ne_a run_ne_n run_lv_a run_lv_n st_z ne_z eq_z rd_new rd_old rd_drew rd_drewN Shp.rd_new Shp.rd_old Shp.rd_drew Shp.rd_drewN Shp.rd_set Shp.tn_new Shp.tn_old Shp.tn_drew Shp.tn_drewN tn_new tn_old tn_drew tn_drewN rd_set setRow_alloc run_stn3 run_stt15 run_lvl run_ldl run_stl run_bdl run_bdn run_bdn0 run_bsl run_bsk Shp.rd_extk cell_ext
def hld (k : D.Ky) : Option Tk → Option Addr
  | none => none
  | some t => if (t.near k).hd.1 = k then some ⟨(t.near k).ad, 0, none⟩ else none
theorem subo_near {w : World} {g : Nat} {t : Tk} (h : TR w g (some t)) (k : D.Ky) : subo k 200 (some t) = some (t.near k) := by
  rw [Cr.Tr.near_sub (h.wf t rfl)]; rfl
theorem nd_sub {w : World} {k : D.Ky} {d : Nat} : ∀ {t : Tk}, Nd w t → Nd w (t.sub k d) ∧ ∀ q ∈ (t.sub k d).bl, q ∈ t.bl
  | .lf _ _ _, h => ⟨h, fun q hq => hq⟩
  | .br a b l r, h => by
    simp only [Cr.Tr.sub]
    split
    · split
      · obtain ⟨h1, h2⟩ := nd_sub (k := k) (d := d) h.2.2
        exact ⟨h1, fun q hq => by simp [Cr.Tr.bl, h2 q hq]⟩
      · obtain ⟨h1, h2⟩ := nd_sub (k := k) (d := d) h.2.1
        exact ⟨h1, fun q hq => by simp [Cr.Tr.bl, h2 q hq]⟩
    · exact ⟨h, fun q hq => hq⟩
theorem nd_near {w : World} {g : Nat} {t : Tk} (h : TR w g (some t)) (k : D.Ky) : Nd w (t.near k) := by
  rw [Cr.Tr.near_sub (h.wf t rfl)]; exact (nd_sub (h.nd t rfl)).1
theorem place200 (g : Nat) (o : Option Tk) (k : D.Ky) (w : World) (hT : TR w g o) : Calls Try.prog 35 #[.pointer (some ⟨g, 0, none⟩), .agg (kS.v k), .int .i64 200] w fun e w' => e = .returned (.pointer (some (plc k ⟨g, 0, none⟩ (pth k 200 o)))) ∧ Below w.heap.size w w' := place_any g o k 200 (by omega) w hT
theorem place200n (k : D.Ky) (w : World) : Calls Try.prog 35 #[.pointer none, .agg (kS.v k), .int .i64 200] w fun e w' => ∃ kt : Nat, e = .returned (.pointer (some ⟨kt, 0, none⟩)) ∧ w.heap.size ≤ kt ∧ Blk w' kt 73 #[.pointer none] ∧ Below w.heap.size w w' := place_nil k 200 (by omega) w
set_option maxHeartbeats 4000000 in
theorem held_nil (k : D.Ky) (w : World) : Calls Try.prog 28 #[.pointer none, .agg (kS.v k)] w fun e w' => e = .returned (.pointer none) ∧ Below w.heap.size w w' := by
  have b0 := below_alloc_ w (.cells (kS.v k) 30)
  have CP := Lib.hid (fun w => place200n k w)
  go_enter Try.func28, Try.ntmps28
  go_wp2_with (go_at_call 35; (with_reducible refine (CP.out _).mono ?_); rintro e w1 ⟨kt, rfl, hk, hB, b1⟩; have hc := hB.cell; have z1 := below_up b0 b0.size b1)
  go_quiet (fail)
  go_wp2
  go_ret
  exact ⟨rfl, below_drewN z1 _⟩
set_option maxHeartbeats 4000000 in
theorem held_any (g : Nat) (o : Option Tk) (k : D.Ky) (w : World) (hT : TR w g o) : Calls Try.prog 28 #[.pointer (some ⟨g, 0, none⟩), .agg (kS.v k)] w fun e w' => e = .returned (.pointer (hld k o)) ∧ Below w.heap.size w w' := by
  obtain ⟨w0, hw0⟩ : ∃ w0, w.alloc (.cells (kS.v k) 30) = w0 := ⟨_, rfl⟩
  have f0 : kS.rd w0 ⟨w.heap.size, 0, none⟩ = some k := by rw [← hw0]; exact Shp.rd_new _ _ _ _ rfl
  have b0 : Below w.heap.size w w0 := by rw [← hw0]; exact below_alloc_ _ _
  have hT0 := hT.on b0
  have CP := Lib.hid (place200 g o k w0 hT0)
  cases o with
  | none =>
    clear hT
    go_enter Try.func28, Try.ntmps28
    go_wp2_with fail
    try rw [hw0]
    clear hw0
    go_wp2_with (go_at_call 35; (with_reducible refine CP.out.mono ?_); rintro e w1 ⟨rfl, b1⟩; have hc : w1.cell? (plc k ⟨g, 0, none⟩ (pth k 200 none)) = some (.pointer none) := (hT0.on b1).sub_cell (Nat.le_refl _); have z1 := below_up b0 b0.size b1)
    go_quiet (fail)
    go_wp2
    go_ret
    exact ⟨rfl, below_drewN z1 _⟩
  | some t =>
    obtain ⟨a, x, v, hn⟩ := Cr.Tr.near_lf k t
    have hs := subo_near hT k
    have C2 := Lib.hid (fun w => parting_any x k w)
    have hl := Cr.par_le x k
    have hh : hld k (some t) = if x = k then some ⟨a, 0, none⟩ else none := by unfold hld; simp only [hn]; rfl
    rw [hn] at hs
    have hr := @Cr.par_200 D.Ky _ _ x k
    obtain ⟨r, er⟩ : ∃ r, Cr.par x k = r := ⟨_, rfl⟩
    rw [er] at C2 hl hr
    have HN := Lib.hid (fun w1 (hT1 : TR w1 g (some t)) => show NF w1 a 200 none none (x, v) from by have := (nd_near hT1 k).nf; rw [hn] at this; exact this)
    rw [hh]
    clear hT er hh hn
    by_cases c : r = 200
    · have hxk := hr.1 c
      have hd : decide ((r : Int) < 200) = false := decide_eq_false (by omega)
      rw [if_pos hxk]
      clear hxk hr
      go_enter Try.func28, Try.ntmps28
      go_wp2_with fail
      try rw [hw0]
      clear hw0
      go_wp2_with (go_at_call 35; (with_reducible refine CP.out.mono ?_); rintro e w1 ⟨rfl, b1⟩; have hc : w1.cell? (plc k ⟨g, 0, none⟩ (pth k 200 (some t))) = some (.pointer (some ⟨a, 0, none⟩)) := by { have := (hT0.on b1).sub_cell (k := k) (Nat.le_refl 200); rw [hs] at this; exact this }; have z1 := below_up b0 b0.size b1; have f1 := Shp.rd_on f0 b1; have nf := HN.out _ (hT0.on b1); have k1 := nf.key; have l1 := nf.lt; have l2 := Shp.rd_lt f1)
      refine wp_region_ext (by kernel_rfl) (by kernel_rfl) ?_
      repeat (go_big_quiet_step ((go_at_call 40; with_reducible exact calls_ext (C2.out _))))
      refine wpQuiet_nil ?_
      intro w4 hw4
      have z4 := below_up z1 z1.size (ext_to hw4)
      clear hw4
      go_wp2
      go_ret
      exact ⟨rfl, z4⟩
    · have hxk := fun e => c (hr.2 e)
      have hd : decide ((r : Int) < 200) = true := decide_eq_true (by omega)
      rw [if_neg hxk]
      clear hxk hr
      go_enter Try.func28, Try.ntmps28
      go_wp2_with fail
      try rw [hw0]
      clear hw0
      go_wp2_with (go_at_call 35; (with_reducible refine CP.out.mono ?_); rintro e w1 ⟨rfl, b1⟩; have hc : w1.cell? (plc k ⟨g, 0, none⟩ (pth k 200 (some t))) = some (.pointer (some ⟨a, 0, none⟩)) := by { have := (hT0.on b1).sub_cell (k := k) (Nat.le_refl 200); rw [hs] at this; exact this }; have z1 := below_up b0 b0.size b1; have f1 := Shp.rd_on f0 b1; have nf := HN.out _ (hT0.on b1); have k1 := nf.key; have l1 := nf.lt; have l2 := Shp.rd_lt f1)
      refine wp_region_ext (by kernel_rfl) (by kernel_rfl) ?_
      repeat (go_big_quiet_step ((go_at_call 40; with_reducible exact calls_ext (C2.out _))))
      refine wpQuiet_nil ?_
      intro w4 hw4
      have z4 := below_up z1 z1.size (ext_to hw4)
      clear hw4
      go_wp2
      go_ret
      exact ⟨rfl, z4⟩
/-- What Get tells. -/
def got (k : D.Ky) (l : List (D.Ky × Int)) : Int := (Cr.get k l).getD 0
theorem up_of {w : World} {g : Nat} {o : Option Tk} (h : TR w g o) : Cr.Up (Cr.Tr.lso o) := by
  cases o with
  | none => exact List.Pairwise.nil
  | some t => exact Cr.Tr.sorted (h.wf t rfl)
theorem hld_has {w : World} {g : Nat} {o : Option Tk} (h : TR w g o) (k : D.Ky) : (Cr.has k (Cr.Tr.lso o) = false ∧ hld k o = none) ∨ ∃ t a v, o = some t ∧ t.near k = .lf a k v ∧ hld k o = some ⟨a, 0, none⟩ ∧ Cr.has k (Cr.Tr.lso o) = true ∧ (k, v) ∈ t.ls := by
  cases o with
  | none => exact .inl ⟨rfl, rfl⟩
  | some t =>
    obtain ⟨a, x, v, hn⟩ := Cr.Tr.near_lf k t
    have hi := Cr.Tr.near_is (k := k) (h.wf t rfl)
    have hm := Cr.Tr.near_mem k t
    have hh : hld k (some t) = if x = k then some ⟨a, 0, none⟩ else none := by unfold hld; simp only [hn]; rfl
    rw [hn] at hi hm
    by_cases c : x = k
    · subst c
      exact .inr ⟨t, a, v, rfl, hn, by rw [hh, if_pos rfl], Cr.has_iff.2 (hi.1 rfl), hm⟩
    · refine .inl ⟨?_, by rw [hh, if_neg c]⟩
      cases hc : Cr.has k (Cr.Tr.lso (some t))
      · rfl
      · exact absurd (hi.2 (Cr.has_iff.1 hc)) c
theorem lf_nf {w : World} {g : Nat} {t : Tk} (h : TR w g (some t)) {k : D.Ky} {a : Nat} {v : Int} (hn : t.near k = .lf a k v) : NF w a 200 none none (k, v) := by
  have := (nd_near h k).nf
  rw [hn] at this
  exact this
set_option maxHeartbeats 4000000 in
theorem get_nil (k : D.Ky) (w : World) : Calls Try.prog 12 #[.pointer none, .agg (kS.v k)] w fun e w' => e = .returned (.tuple #[.int .i64 0, .bool false]) ∧ Below w.heap.size w w' := by
  have b0 := below_alloc_ w (.cells (kS.v k) 30)
  have CH := Lib.hid (fun w => held_nil k w)
  go_enter Try.func12, Try.ntmps12
  go_wp2_with (go_at_call 28; (with_reducible refine (CH.out _).mono ?_); rintro e w1 ⟨rfl, b1⟩; have z1 := below_up b0 b0.size b1)
  go_ret2
  exact ⟨rfl, z1⟩
set_option maxHeartbeats 4000000 in
theorem get_any (g : Nat) (o : Option Tk) (k : D.Ky) (w : World) (hT : TR w g o) : Calls Try.prog 12 #[.pointer (some ⟨g, 0, none⟩), .agg (kS.v k)] w fun e w' => e = .returned (.tuple #[.int .i64 (got k (Cr.Tr.lso o)), .bool (Cr.has k (Cr.Tr.lso o))]) ∧ Below w.heap.size w w' := by
  have b0 := below_alloc_ w (.cells (kS.v k) 30)
  have hT0 := hT.on b0
  have CH := Lib.hid (held_any g o k _ hT0)
  rcases hld_has hT k with ⟨h1, h2⟩ | ⟨t, a, v, rfl, hn, h2, h3, hm⟩
  · rw [h2] at CH
    rw [h1, got, Cr.get_none h1]
    clear h1 h2 hT
    go_enter Try.func12, Try.ntmps12
    go_wp2_with (go_at_call 28; (with_reducible refine CH.out.mono ?_); rintro e w1 ⟨rfl, b1⟩; have z1 := below_up b0 b0.size b1)
    go_ret2
    exact ⟨rfl, z1⟩
  · rw [h2] at CH
    have hg : Cr.get k (Cr.Tr.lso (some t)) = some v := Cr.get_some (up_of hT) hm
    rw [h3, got, hg]
    have HN := Lib.hid hn
    clear h3 h2 hT hg hn hm
    go_enter Try.func12, Try.ntmps12
    go_wp2_with (go_at_call 28; (with_reducible refine CH.out.mono ?_); rintro e w1 ⟨rfl, b1⟩; have z1 := below_up b0 b0.size b1; have nf := lf_nf (hT0.on b1) HN.out; have c1 := nf.thing)
    go_ret2
    exact ⟨rfl, z1⟩
theorem len_nil (w : World) : Calls Try.prog 34 #[.pointer none] w fun e w' => e = .returned (.int .i64 0) ∧ w = w' := by
  go_enter Try.func34, Try.ntmps34
  go_wp2
  go_ret
  exact ⟨rfl, rfl⟩
theorem len_any (g : Nat) (o : Option Tk) (w : World) (hT : TC w g o) : Calls Try.prog 34 #[.pointer (some ⟨g, 0, none⟩)] w fun e w' => e = .returned (.int .i64 ((Cr.Tr.lso o).length : Nat)) ∧ w = w' := by
  have hc := hT.cnt
  clear hT
  go_enter Try.func34, Try.ntmps34
  go_wp2
  go_ret
  exact ⟨rfl, rfl⟩
end Go.Proofs.Ytkhjnfplcaffnaa
set_option linter.unusedVariables false
set_option linter.unusedSimpArgs false
set_option maxRecDepth 100000
namespace Go.Proofs.Ytkhjnfplcaffnaa
open Go.RowKit

abbrev nT : TypeId := 84
theorem ndc_lo (b : Int) (p q r : Option Addr) (e : D.Ky × Int) : (ndc b p q e).setIfInBounds 1 (.pointer r) = ndc b r q e := by simp [ndc, ndl]
theorem ndc_hi (b : Int) (p q r : Option Addr) (e : D.Ky × Int) : (ndc b p q e).setIfInBounds 2 (.pointer r) = ndc b p r e := by simp [ndc, ndl]
theorem ndc_thing (b : Int) (p q : Option Addr) (x : D.Ky) (u v : Int) : (ndc b p q (x, u)).setIfInBounds 28 (.int .i64 v) = ndc b p q (x, v) := by
  have hl := x.len
  unfold ndc
  rw [List.setIfInBounds_toArray]
  congr 1
  simp only [ndl, lcells, List.set_cons_succ]
  rw [List.set_append_right _ _ (by rw [bys_len, hl]; omega)]
  simp [bys_len, hl]
theorem nd_set {w : World} {t : Tk} (h : Nd w t) {a : Addr} (ha : a.block ∉ t.bl) (v : Value) : Nd (w.setCell a v) t := h.kept fun g hg => Below.heap_setCell w a v g (fun e => ha (by rw [← e]; exact hg))
/-- Where a path within a tree ends: in one of its nodes. -/
theorem plc_in {k : D.Ky} {d : Nat} : ∀ {t : Tk} {p : Addr}, t.bit < d → d ≤ 200 → (plc k p (t.path k d)).block ∈ t.bl
  | .lf _ _ _, p, h, hd => by simp only [Cr.Tr.bit] at h; omega
  | .br a b l r, p, h, hd => by
    have h : b < d := h
    simp only [Cr.Tr.path, if_pos h]
    have key : ∀ u : Tk, (∀ q ∈ u.bl, q ∈ (Cr.Tr.br a b l r).bl) → (u.bit < d → ∀ p, (plc k p (u.path k d)).block ∈ u.bl) → (plc k p (Cr.Tr.br a b l r :: u.path k d)).block ∈ (Cr.Tr.br a b l r).bl := by
      intro u hu hi
      by_cases c : u.bit < d
      · exact hu _ (hi c _)
      · rw [path_out c]
        show (Cr.Tr.br a b l r).ad ∈ _
        exact Cr.Tr.ad_mem _
    split
    · exact key r (fun q hq => by simp [Cr.Tr.bl, hq]) (fun c p => plc_in c hd)
    · exact key l (fun q hq => by simp [Cr.Tr.bl, hq]) (fun c p => plc_in c hd)
theorem sub_self {k : D.Ky} {d : Nat} : ∀ {t : Tk}, ¬ t.bit < d → t.sub k d = t
  | .lf _ _ _, _ => rfl
  | .br a b l r, h => by
    have h : ¬ b < d := h
    simp only [Cr.Tr.sub, if_neg h]
theorem ins_mk {k : D.Ky} {v : Int} {d a c : Nat} : ∀ {t : Tk}, ¬ t.bit < d → t.ins k v d a c = Cr.Tr.mk k v d a c t
  | .lf _ _ _, _ => rfl
  | .br a' b l r, h => by
    have h : ¬ b < d := h
    rw [Cr.Tr.ins_br, if_neg h]
theorem ins_ad {k : D.Ky} {v : Int} {d a c : Nat} : ∀ {t : Tk}, t.bit < d → d ≤ 200 → (t.ins k v d a c).ad = t.ad
  | .lf _ _ _, h, hd => by simp only [Cr.Tr.bit] at h; omega
  | .br a' b l r, h, hd => by
    have h : b < d := h
    rw [Cr.Tr.ins_br, if_pos h]
    split <;> rfl
/-- The new inner node. -/
def newc (k : D.Ky) (d a s : Nat) : Array Value := if Cr.Bits.bt k d then ndc d (some ⟨s, 0, none⟩) (some ⟨a, 0, none⟩) (D.zK, 0) else ndc d (some ⟨a, 0, none⟩) (some ⟨s, 0, none⟩) (D.zK, 0)
theorem nd_mk {w : World} {k : D.Ky} {v : Int} {d a c : Nat} {t : Tk} (h : Nd w t) (ha : Blk w a nT (ndc 200 none none (k, v))) (hc : Blk w c nT (newc k d a t.ad)) : Nd w (Cr.Tr.mk k v d a c t) := by
  unfold Cr.Tr.mk
  unfold newc at hc
  by_cases hb : Cr.Bits.bt k d = true
  · rw [if_pos hb] at hc ⊢; exact ⟨hc, h, ha⟩
  · rw [if_neg hb] at hc ⊢; exact ⟨hc, ha, h⟩
theorem ins_nd {w : World} {k : D.Ky} {v : Int} {d a c : Nat} (hd : d ≤ 200) : ∀ {t : Tk} {p : Addr}, Nd w t → t.wf → t.bl.Nodup → t.bit < d → a ∉ t.bl → c ∉ t.bl → Blk w a nT (ndc 200 none none (k, v)) → Blk w c nT (newc k d a (t.sub k d).ad) →
    Nd (w.setCell (plc k p (t.path k d)) (.pointer (some ⟨c, 0, none⟩))) (t.ins k v d a c)
  | .lf _ _ _, p, _, _, _, h, _, _, _, _ => by simp only [Cr.Tr.bit] at h; omega
  | .br a' b l r, p, hN, hw, hn, h, ha, hc, hA, hC => by
    have h : b < d := h
    have hb2 : b < 200 := hw.1
    simp only [Cr.Tr.bl, List.nodup_cons, List.mem_append, not_or, List.nodup_append] at hn
    obtain ⟨⟨n1, n2⟩, nl, nr, nlr⟩ := hn
    simp only [Cr.Tr.bl, List.mem_cons, List.mem_append, not_or] at ha hc
    rw [Cr.Tr.ins_br, if_pos h]
    by_cases hbt : Cr.Bits.bt k b = true
    · have hsd : D.sd k b = 1 := by unfold D.sd; rw [if_pos hbt]
      rw [if_pos hbt]
      simp only [Cr.Tr.path, Cr.Tr.sub, if_pos h, if_pos hbt] at hC ⊢
      by_cases hr : r.bit < d
      · have hin := plc_in (k := k) (d := d) (p := ⟨a', 1 + D.sd k b, none⟩) hr hd
        have hI := ins_nd hd (p := ⟨a', 1 + D.sd k b, none⟩) hN.2.2 hw.2.2.2.2.2 nr hr ha.2.2 hc.2.2 hA hC
        refine ⟨?_, nd_set hN.2.1 (fun e => nlr _ e _ hin rfl) _, hI⟩
        rw [ins_ad hr hd]
        exact ⟨(Below.heap_setCell w _ _ a' (fun e => n2 (by rw [e]; exact hin))).trans hN.1.out⟩
      · rw [path_out hr, ins_mk hr]
        rw [sub_self hr] at hC
        show Nd (w.setCell ⟨a', 1 + D.sd k b, none⟩ _) _
        rw [hsd]
        have hset := hN.1.put 2 (.pointer (some ⟨c, 0, none⟩))
        rw [ndc_hi] at hset
        refine ⟨?_, nd_set hN.2.1 n1 _, nd_mk (nd_set hN.2.2 n2 _) ⟨(Below.heap_setCell w _ _ a ha.1).trans hA.out⟩ ⟨(Below.heap_setCell w _ _ c hc.1).trans hC.out⟩⟩
        have : (Cr.Tr.mk k v d a c r).ad = c := by unfold Cr.Tr.mk; split <;> rfl
        rw [this]; exact hset
    · have hsd : D.sd k b = 0 := by unfold D.sd; rw [if_neg hbt]
      rw [if_neg hbt]
      simp only [Cr.Tr.path, Cr.Tr.sub, if_pos h, if_neg hbt] at hC ⊢
      by_cases hr : l.bit < d
      · have hin := plc_in (k := k) (d := d) (p := ⟨a', 1 + D.sd k b, none⟩) hr hd
        have hI := ins_nd hd (p := ⟨a', 1 + D.sd k b, none⟩) hN.2.1 hw.2.2.2.2.1 nl hr ha.2.1 hc.2.1 hA hC
        refine ⟨?_, hI, nd_set hN.2.2 (fun e => nlr _ hin _ e rfl) _⟩
        rw [ins_ad hr hd]
        exact ⟨(Below.heap_setCell w _ _ a' (fun e => n1 (by rw [e]; exact hin))).trans hN.1.out⟩
      · rw [path_out hr, ins_mk hr]
        rw [sub_self hr] at hC
        show Nd (w.setCell ⟨a', 1 + D.sd k b, none⟩ _) _
        rw [hsd]
        have hset := hN.1.put 1 (.pointer (some ⟨c, 0, none⟩))
        rw [ndc_lo] at hset
        refine ⟨?_, nd_mk (nd_set hN.2.1 n1 _) ⟨(Below.heap_setCell w _ _ a ha.1).trans hA.out⟩ ⟨(Below.heap_setCell w _ _ c hc.1).trans hC.out⟩, nd_set hN.2.2 n2 _⟩
        have : (Cr.Tr.mk k v d a c l).ad = c := by unfold Cr.Tr.mk; split <;> rfl
        rw [this]; exact hset
theorem mk_bl {k : D.Ky} {v : Int} {d a c : Nat} (t : Tk) : (Cr.Tr.mk k v d a c t).bl.Perm (c :: a :: t.bl) := by
  unfold Cr.Tr.mk
  split
  · simp only [Cr.Tr.bl]; exact List.Perm.cons _ (List.perm_append_comm)
  · exact List.Perm.refl _
theorem perm_mid {x : List Nat} {c a : Nat} {l r : List Nat} (h : r.Perm (c :: a :: x)) : (l ++ r).Perm (c :: a :: (l ++ x)) := by
  refine (List.Perm.append_left l h).trans ?_
  refine (List.perm_middle).trans (List.Perm.cons _ ?_)
  exact List.perm_middle
theorem ins_bl {k : D.Ky} {v : Int} {d a c : Nat} : ∀ t : Tk, (t.ins k v d a c).bl.Perm (c :: a :: t.bl)
  | .lf a' x u => mk_bl _
  | .br a' b l r => by
    rw [Cr.Tr.ins_br]
    have sw : ∀ {m x : List Nat}, m.Perm (c :: a :: x) → (a' :: m).Perm (c :: a :: a' :: x) := fun h => (List.Perm.cons _ h).trans ((List.Perm.swap _ _ _).trans (List.Perm.cons _ (List.Perm.swap _ _ _)))
    split
    · split
      · exact sw (perm_mid (ins_bl r))
      · simp only [Cr.Tr.bl]
        exact sw ((List.Perm.append_right r.bl (ins_bl l)).trans (List.Perm.refl _))
    · exact mk_bl _
def blo (o : Option Tk) : List Nat := match o with | none => [] | some t => t.bl
/-- Another number by a key, in memory. -/
theorem upd_nd {w : World} {k : D.Ky} {u : Int} {a : Nat} {v : Int} : ∀ {t : Tk}, Nd w t → t.bl.Nodup → t.near k = .lf a k v → Nd (w.setCell ⟨a, 28, none⟩ (.int .i64 u)) (t.upd k u) ∧ (t.upd k u).ad = t.ad ∧ (t.upd k u).bl = t.bl ∧ a ∈ t.bl
  | .lf a' x y, hN, _, hn => by
    simp only [Cr.Tr.near, Cr.Tr.lf.injEq] at hn
    obtain ⟨rfl, rfl, rfl⟩ := hn
    have := hN.put 28 (.int .i64 u)
    rw [ndc_thing] at this
    refine ⟨?_, rfl, rfl, by simp [Cr.Tr.bl]⟩
    simp only [Cr.Tr.upd, if_true]
    exact this
  | .br a' b l r, hN, hn, hk => by
    simp only [Cr.Tr.bl, List.nodup_cons, List.mem_append, not_or, List.nodup_append] at hn
    obtain ⟨⟨n1, n2⟩, nl, nr, nlr⟩ := hn
    simp only [Cr.Tr.near] at hk
    simp only [Cr.Tr.upd]
    by_cases hbt : Cr.Bits.bt k b = true
    · rw [if_pos hbt] at hk ⊢
      obtain ⟨h1, h2, h3, h4⟩ := upd_nd (u := u) hN.2.2 nr hk
      refine ⟨⟨?_, nd_set hN.2.1 (fun e => nlr _ e _ h4 rfl) _, h1⟩, rfl, by simp only [Cr.Tr.bl, h3], by simp [Cr.Tr.bl, h4]⟩
      rw [h2]
      exact ⟨(Below.heap_setCell w _ _ a' (fun e => n2 (by rw [e]; exact h4))).trans hN.1.out⟩
    · rw [if_neg hbt] at hk ⊢
      obtain ⟨h1, h2, h3, h4⟩ := upd_nd (u := u) hN.2.1 nl hk
      refine ⟨⟨?_, h1, nd_set hN.2.2 (fun e => nlr _ h4 _ e rfl) _⟩, rfl, by simp only [Cr.Tr.bl, h3], by simp [Cr.Tr.bl, h4]⟩
      rw [h2]
      exact ⟨(Below.heap_setCell w _ _ a' (fun e => n1 (by rw [e]; exact h4))).trans hN.1.out⟩
end Go.Proofs.Ytkhjnfplcaffnaa
