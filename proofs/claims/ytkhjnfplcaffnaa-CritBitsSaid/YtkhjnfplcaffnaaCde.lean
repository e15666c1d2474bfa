/-
  Some keys fewer.
-/
import Derived.Test.YtkhjnfplcaffnaaDe
import Derived.Test.YtkhjnfplcaffnaaCni
set_option linter.unusedVariables false
set_option linter.unusedSimpArgs false
set_option maxRecDepth 100000
namespace Go.Proofs.Ytkhjnfplcaffnaa
open Go.RowKit
attribute [local go_sem ↓] Go.wp_at_zero Go.wp_at_succ ld_k lv_k st_k eq_k ne_k bd_k ld_b lv_b st_b eq_b ne_b bd_25 ld_r lv_r st_rk eq_rk ne_rk bd_r ld_p lv_p st_px bd_p Nm.ld_a Nm.ld_n Nm.st_a Nm.st_n Nm.eq_a Nm.eq_n Nm.ne_a Nm.ne_n Nm.lv_a Nm.lv_n ld_a ld_n st_a st_n eq_a eq_n ne_a ne_n lv_a lv_n ld_l lv_l st_l bd_l bd_n bs_l bs_k
attribute [local go_sem] run_ldk run_lvk run_stk run_eqk run_nek run_bdk_z run_ldb run_lvb run_stb run_eqb run_neb run_ldr run_lvr run_strk run_eqrk run_nerk run_bdr_z run_ldp run_lvp run_stpx Nm.run_ld_a Nm.run_ld_n Nm.run_st_n Nm.run_eq_a Nm.run_eq_n Nm.run_ne_a Nm.run_ne_n Nm.run_lv_a Nm.run_lv_n Nm.rd_new Nm.rd_old Nm.rd_drew Nm.rd_drewN run_ld_a run_ld_n run_sw_a run_sw_n run_eq_a run_eq_n run_ne_a run_ne_n run_lv_a run_lv_n st_z ne_z eq_z rd_new rd_old rd_drew rd_drewN Shp.rd_new Shp.rd_old Shp.rd_drew Shp.rd_drewN Shp.rd_set Shp.tn_new Shp.tn_old Shp.tn_drew Shp.tn_drewN tn_new tn_old tn_drew tn_drewN rd_set setRow_alloc run_stn3 run_stt15 run_lvl run_ldl run_stl run_bdl run_bdn run_bdn0 run_bsl run_bsk Shp.rd_extk cell_ext
/-- What is left of a list behind some keys, one after another, and how many were there. -/
def dst (s : List Lf × Nat) (k : D.Ky) : List Lf × Nat := (Cr.del k s.1, s.2 + if Cr.has k s.1 then 1 else 0)
def dls (m : List Lf) (ks : List D.Ky) : List Lf × Nat := ks.foldl dst (m, 0)
/-- What some keys taken away leave. -/
structure DelC (w : World) (g : Nat) (o : Option Tk) (w' : World) (o' : Option Tk) (l : List Lf) : Prop where
  tc : TC w' g o'
  ls : Cr.Tr.lso o' = l
  ov : Ov w.heap.size (g :: blo o) w w'
  old : ∀ q ∈ blo o', q ∈ blo o
theorem DelC.on {w w1 w2 : World} {g : Nat} {o o' : Option Tk} {l : List Lf} (h : DelC w g o w1 o' l) (hb : Below w1.heap.size w1 w2) : DelC w g o w2 o' l := ⟨h.tc.on hb, h.ls, h.ov.on (Nat.le_refl _) hb, h.old⟩
theorem DelC.lt {w w1 : World} {g : Nat} {o o' : Option Tk} {l : List Lf} (h : DelC w g o w1 o' l) : w.heap.size ≤ w1.heap.size := h.ov.size
theorem DelC.rd {w w1 : World} {g : Nat} {o o' : Option Tk} {l : List Lf} (h : DelC w g o w1 o' l) {b d : Nat} {k : D.Ky} (hk : kS.rd w ⟨b, d, none⟩ = some k) (hb : b ∉ g :: blo o) : kS.rd w1 ⟨b, d, none⟩ = some k := (Shp.rd_to (h.ov.block b (Shp.rd_lt hk) hb)).trans hk
/-- One key more is taken away. -/
theorem DelC.step {w w1 w2 : World} {g : Nat} {o : Option Tk} {t : Tk} {l : List Lf} {k : D.Ky} (h : DelC w g o w1 (some t) l) (hT : TC w2 g (t.del k)) (hl : Cr.Tr.lso (t.del k) = Cr.del k t.ls) (hq : ∀ q ∈ blo (t.del k), q ∈ t.bl) (hO : Ov w1.heap.size (g :: t.bl) w1 w2) : DelC w g o w2 (t.del k) (Cr.del k l) := by
  refine ⟨hT, by rw [hl, ← h.ls]; rfl, ?_, fun q e => h.old q (hq q e)⟩
  refine h.ov.trans ⟨hO.os, hO.tape, hO.output, hO.size, fun q h1 h2 => hO.block q (Nat.lt_of_lt_of_le h1 h.ov.size) (fun c => h2 ?_)⟩
  rcases List.mem_cons.1 c with rfl | c
  · exact List.mem_cons_self ..
  · exact List.mem_cons_of_mem _ (h.old q c)
theorem lf_hd {k : D.Ky} {t : Tk} {a : Nat} {v : Int} (h : t.near k = .lf a k v) : (t.near k).hd.1 = k := by rw [h]; rfl
set_option maxHeartbeats 4000000 in
theorem del_one (g : Nat) (o : Option Tk) (k : D.Ky) (b c : Nat) (w : World) (hT : TC w g o) (hk0 : kS.rd w ⟨b, 0, none⟩ = some k) (hb : b ∉ g :: blo o) : Calls Try.prog 9 #[.pointer (some ⟨g, 0, none⟩), .slice (some ⟨b, 0, none⟩) 1 c] w fun e w' => e = .returned (.int .i64 ((dls (Cr.Tr.lso o) [k]).2 : Nat)) ∧ ∃ o', DelC w g o w' o' (dls (Cr.Tr.lso o) [k]).1 := by
  have hbw := Shp.rd_lt hk0
  have HT := Lib.hid hT
  obtain ⟨m, hm⟩ : ∃ m, Cr.Tr.lso o = m := ⟨_, rfl⟩
  rw [hm]
  have hD0 : DelC w g o w o m := ⟨hT, hm, Ov.refl _ _ _, fun q h => h⟩
  clear hT
  go_enter Try.func9, Try.ntmps9
  go_wp2
  go_loopw [5, 7, 10] (fun v _ i wr => ∃ j : Nat, j ≤ 1 ∧ v = .int .i64 ((dls m ([k].take j)).2 : Nat) ∧ i = .int .i64 j ∧ ∃ o', DelC w g o wr o' (dls m ([k].take j)).1) (fun _ _ i _ => 1 - (intOf i).toNat)
  case atStart => exact ⟨0, Nat.zero_le _, rfl, rfl, o, hD0⟩
  case round =>
    obtain ⟨j, hj, rfl, rfl, o', hD⟩ := hrel
    clear hD0
    have hcn : (dls m ([k].take j)).2 ≤ j := by
      have : ∀ (l : List D.Ky) (s : List Lf × Nat), (l.foldl dst s).2 ≤ s.2 + l.length := by
        intro l
        induction l with
        | nil => intro s; exact Nat.le_refl _
        | cons x l ih =>
          intro s
          refine Nat.le_trans (ih _) ?_
          have : (dst s x).2 ≤ s.2 + 1 := by unfold dst; simp only; split <;> omega
          simp only [List.length_cons]; omega
      have := this ([k].take j) (m, 0)
      simp only [List.length_take] at this
      unfold dls
      omega
    obtain ⟨s, hs⟩ : ∃ s, dls m ([k].take j) = s := ⟨_, rfl⟩
    rw [hs] at hcn hD ⊢
    have hnx : ∀ x : D.Ky, [k][j]? = some x → dls m ([k].take (j + 1)) = dst s x := fun x e => by
      have hlt := (List.getElem?_eq_some_iff.1 e).1
      have h2 := (List.getElem?_eq_some_iff.1 e).2
      rw [← hs]
      unfold dls
      rw [List.take_succ_eq_append_getElem hlt, List.foldl_append, h2]
      rfl
    have hsd : j = 1 → s = dls m [k] := fun e => by rw [← hs, e]; rfl
    clear hs
    obtain rfl | rfl : j = 0 ∨ j = 1 := by omega
    · have hnx := hnx k rfl
      have HN := Lib.hid hnx
      clear hnx
      have hk0' := hD.rd hk0 hb
      obtain ⟨q, hq⟩ : ∃ q, s.2 = q := ⟨_, rfl⟩
      rw [hq] at hcn ⊢
      have HQ := Lib.hid hq
      have i0 : (0 : Int) ≤ (q : Int) := by omega
      have i1 : (q : Int) ≤ 2 := by omega
      obtain ⟨w0, hw0⟩ : ∃ w0, wr.alloc (.cells (kS.v k) 30) = w0 := ⟨_, rfl⟩
      have b0 : Below wr.heap.size wr w0 := by rw [← hw0]; exact below_alloc_ _ _
      have f0 : kS.rd w0 ⟨wr.heap.size, 0, none⟩ = some k := by rw [← hw0]; exact Shp.rd_new _ _ _ _ rfl
      have hD1 := hD.on b0
      have CH := Lib.hid (fun w1 (hT : TC w1 g o') => held_any g o' k w1 hT.tr)
      clear hq hcn
      rcases hld_has hD.tc.tr k with ⟨h1, h2⟩ | ⟨t, a, v, rfl, hn, h2, h3, _⟩
      · rw [h2] at CH
        rw [hD.ls] at h1
        have HX := Lib.hid h1
        clear h1 h2 hD
        go_wp2_with fail
        try rw [hw0]
        clear hw0
        go_wp2_with (go_at_call 28; (with_reducible refine (CH.out _ hD1.tc).mono ?_); rintro e w1 ⟨rfl, b1⟩; have hD2 := hD1.on b1)
        go_roundw
        case rel =>
          refine ⟨1, by omega, ?_, by go_num, o', ?_⟩
          · rw [HN.out]; unfold dst; rw [HX.out, HQ.out]; rfl
          · rw [HN.out]; unfold dst; rw [Cr.del_not HX.out]; exact hD2
        case measure => simp [intOf]
      · rw [h2] at CH
        have CD := Lib.hid (fun w1 (hT : TC w1 g (some t)) => drop_any g t k w1 hT (lf_hd hn))
        rw [hD.ls] at h3
        have HX := Lib.hid h3
        clear h3 h2 hD hn
        go_wp2_with fail
        try rw [hw0]
        clear hw0
        go_wp2_with (first
          | (go_at_call 28; (with_reducible refine (CH.out _ hD1.tc).mono ?_); rintro e w1 ⟨rfl, b1⟩; have hD2 := hD1.on b1; have f1 := Shp.rd_on f0 b1)
          | (go_at_call 29; (with_reducible refine (CD.out _ hD2.tc).mono ?_); rintro e w2 ⟨⟨x, rfl⟩, d1, d2, d3, d4⟩; have HD3 := Lib.hid (hD2.step d1 d2 d3 d4); clear d1 d2 d3 d4))
        go_roundw
        case rel =>
          refine ⟨1, by omega, ?_, by go_num, t.del k, ?_⟩
          · rw [HN.out]; unfold dst; rw [HX.out, HQ.out]; rfl
          · rw [HN.out]; exact HD3.out
        case measure => simp [intOf]
    · have hs2 : s = dls m [k] := hsd rfl
      go_wp2
      go_ret
      exact ⟨by first | rfl | rw [hs2], o', by first | exact hD | (rw [← hs2]; exact hD)⟩
set_option maxHeartbeats 4000000 in
theorem del_two (g : Nat) (o : Option Tk) (k k2 : D.Ky) (b c : Nat) (w : World) (hT : TC w g o) (hk0 : kS.rd w ⟨b, 0, none⟩ = some k) (hk1 : kS.rd w ⟨b, 25, none⟩ = some k2) (hb : b ∉ g :: blo o) : Calls Try.prog 9 #[.pointer (some ⟨g, 0, none⟩), .slice (some ⟨b, 0, none⟩) 2 c] w fun e w' => e = .returned (.int .i64 ((dls (Cr.Tr.lso o) [k, k2]).2 : Nat)) ∧ ∃ o', DelC w g o w' o' (dls (Cr.Tr.lso o) [k, k2]).1 := by
  have hbw := Shp.rd_lt hk0
  have HT := Lib.hid hT
  obtain ⟨m, hm⟩ : ∃ m, Cr.Tr.lso o = m := ⟨_, rfl⟩
  rw [hm]
  have hD0 : DelC w g o w o m := ⟨hT, hm, Ov.refl _ _ _, fun q h => h⟩
  clear hT
  go_enter Try.func9, Try.ntmps9
  go_wp2
  go_loopw [5, 7, 10] (fun v _ i wr => ∃ j : Nat, j ≤ 2 ∧ v = .int .i64 ((dls m ([k, k2].take j)).2 : Nat) ∧ i = .int .i64 j ∧ ∃ o', DelC w g o wr o' (dls m ([k, k2].take j)).1) (fun _ _ i _ => 2 - (intOf i).toNat)
  case atStart => exact ⟨0, Nat.zero_le _, rfl, rfl, o, hD0⟩
  case round =>
    obtain ⟨j, hj, rfl, rfl, o', hD⟩ := hrel
    clear hD0
    have hcn : (dls m ([k, k2].take j)).2 ≤ j := by
      have : ∀ (l : List D.Ky) (s : List Lf × Nat), (l.foldl dst s).2 ≤ s.2 + l.length := by
        intro l
        induction l with
        | nil => intro s; exact Nat.le_refl _
        | cons x l ih =>
          intro s
          refine Nat.le_trans (ih _) ?_
          have : (dst s x).2 ≤ s.2 + 1 := by unfold dst; simp only; split <;> omega
          simp only [List.length_cons]; omega
      have := this ([k, k2].take j) (m, 0)
      simp only [List.length_take] at this
      unfold dls
      omega
    obtain ⟨s, hs⟩ : ∃ s, dls m ([k, k2].take j) = s := ⟨_, rfl⟩
    rw [hs] at hcn hD ⊢
    have hnx : ∀ x : D.Ky, [k, k2][j]? = some x → dls m ([k, k2].take (j + 1)) = dst s x := fun x e => by
      have hlt := (List.getElem?_eq_some_iff.1 e).1
      have h2 := (List.getElem?_eq_some_iff.1 e).2
      rw [← hs]
      unfold dls
      rw [List.take_succ_eq_append_getElem hlt, List.foldl_append, h2]
      rfl
    have hsd : j = 2 → s = dls m [k, k2] := fun e => by rw [← hs, e]; rfl
    clear hs
    obtain rfl | rfl | rfl : j = 0 ∨ j = 1 ∨ j = 2 := by omega
    · have hnx := hnx k rfl
      have HN := Lib.hid hnx
      clear hnx
      have hk0' := hD.rd hk0 hb
      obtain ⟨q, hq⟩ : ∃ q, s.2 = q := ⟨_, rfl⟩
      rw [hq] at hcn ⊢
      have HQ := Lib.hid hq
      have i0 : (0 : Int) ≤ (q : Int) := by omega
      have i1 : (q : Int) ≤ 2 := by omega
      obtain ⟨w0, hw0⟩ : ∃ w0, wr.alloc (.cells (kS.v k) 30) = w0 := ⟨_, rfl⟩
      have b0 : Below wr.heap.size wr w0 := by rw [← hw0]; exact below_alloc_ _ _
      have f0 : kS.rd w0 ⟨wr.heap.size, 0, none⟩ = some k := by rw [← hw0]; exact Shp.rd_new _ _ _ _ rfl
      have hD1 := hD.on b0
      have CH := Lib.hid (fun w1 (hT : TC w1 g o') => held_any g o' k w1 hT.tr)
      clear hq hcn
      rcases hld_has hD.tc.tr k with ⟨h1, h2⟩ | ⟨t, a, v, rfl, hn, h2, h3, _⟩
      · rw [h2] at CH
        rw [hD.ls] at h1
        have HX := Lib.hid h1
        clear h1 h2 hD
        go_wp2_with fail
        try rw [hw0]
        clear hw0
        go_wp2_with (go_at_call 28; (with_reducible refine (CH.out _ hD1.tc).mono ?_); rintro e w1 ⟨rfl, b1⟩; have hD2 := hD1.on b1)
        go_roundw
        case rel =>
          refine ⟨1, by omega, ?_, by go_num, o', ?_⟩
          · rw [HN.out]; unfold dst; rw [HX.out, HQ.out]; rfl
          · rw [HN.out]; unfold dst; rw [Cr.del_not HX.out]; exact hD2
        case measure => simp [intOf]
      · rw [h2] at CH
        have CD := Lib.hid (fun w1 (hT : TC w1 g (some t)) => drop_any g t k w1 hT (lf_hd hn))
        rw [hD.ls] at h3
        have HX := Lib.hid h3
        clear h3 h2 hD hn
        go_wp2_with fail
        try rw [hw0]
        clear hw0
        go_wp2_with (first
          | (go_at_call 28; (with_reducible refine (CH.out _ hD1.tc).mono ?_); rintro e w1 ⟨rfl, b1⟩; have hD2 := hD1.on b1; have f1 := Shp.rd_on f0 b1)
          | (go_at_call 29; (with_reducible refine (CD.out _ hD2.tc).mono ?_); rintro e w2 ⟨⟨x, rfl⟩, d1, d2, d3, d4⟩; have HD3 := Lib.hid (hD2.step d1 d2 d3 d4); clear d1 d2 d3 d4))
        go_roundw
        case rel =>
          refine ⟨1, by omega, ?_, by go_num, t.del k, ?_⟩
          · rw [HN.out]; unfold dst; rw [HX.out, HQ.out]; rfl
          · rw [HN.out]; exact HD3.out
        case measure => simp [intOf]
    · have hnx := hnx k2 rfl
      have HN := Lib.hid hnx
      clear hnx
      have hk1' := hD.rd hk1 hb
      obtain ⟨q, hq⟩ : ∃ q, s.2 = q := ⟨_, rfl⟩
      rw [hq] at hcn ⊢
      have HQ := Lib.hid hq
      have i0 : (0 : Int) ≤ (q : Int) := by omega
      have i1 : (q : Int) ≤ 2 := by omega
      obtain ⟨w0, hw0⟩ : ∃ w0, wr.alloc (.cells (kS.v k2) 30) = w0 := ⟨_, rfl⟩
      have b0 : Below wr.heap.size wr w0 := by rw [← hw0]; exact below_alloc_ _ _
      have f0 : kS.rd w0 ⟨wr.heap.size, 0, none⟩ = some k2 := by rw [← hw0]; exact Shp.rd_new _ _ _ _ rfl
      have hD1 := hD.on b0
      have CH := Lib.hid (fun w1 (hT : TC w1 g o') => held_any g o' k2 w1 hT.tr)
      clear hq hcn
      rcases hld_has hD.tc.tr k2 with ⟨h1, h2⟩ | ⟨t, a, v, rfl, hn, h2, h3, _⟩
      · rw [h2] at CH
        rw [hD.ls] at h1
        have HX := Lib.hid h1
        clear h1 h2 hD
        go_wp2_with fail
        try rw [hw0]
        clear hw0
        go_wp2_with (go_at_call 28; (with_reducible refine (CH.out _ hD1.tc).mono ?_); rintro e w1 ⟨rfl, b1⟩; have hD2 := hD1.on b1)
        go_roundw
        case rel =>
          refine ⟨2, by omega, ?_, by go_num, o', ?_⟩
          · rw [HN.out]; unfold dst; rw [HX.out, HQ.out]; rfl
          · rw [HN.out]; unfold dst; rw [Cr.del_not HX.out]; exact hD2
        case measure => simp [intOf]
      · rw [h2] at CH
        have CD := Lib.hid (fun w1 (hT : TC w1 g (some t)) => drop_any g t k2 w1 hT (lf_hd hn))
        rw [hD.ls] at h3
        have HX := Lib.hid h3
        clear h3 h2 hD hn
        go_wp2_with fail
        try rw [hw0]
        clear hw0
        go_wp2_with (first
          | (go_at_call 28; (with_reducible refine (CH.out _ hD1.tc).mono ?_); rintro e w1 ⟨rfl, b1⟩; have hD2 := hD1.on b1; have f1 := Shp.rd_on f0 b1)
          | (go_at_call 29; (with_reducible refine (CD.out _ hD2.tc).mono ?_); rintro e w2 ⟨⟨x, rfl⟩, d1, d2, d3, d4⟩; have HD3 := Lib.hid (hD2.step d1 d2 d3 d4); clear d1 d2 d3 d4))
        go_roundw
        case rel =>
          refine ⟨2, by omega, ?_, by go_num, t.del k2, ?_⟩
          · rw [HN.out]; unfold dst; rw [HX.out, HQ.out]; rfl
          · rw [HN.out]; exact HD3.out
        case measure => simp [intOf]
    · have hs2 : s = dls m [k, k2] := hsd rfl
      go_wp2
      go_ret
      exact ⟨by first | rfl | rw [hs2], o', by first | exact hD | (rw [← hs2]; exact hD)⟩
end Go.Proofs.Ytkhjnfplcaffnaa
