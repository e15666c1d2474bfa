/-
  Whatever is put and deleted, by any keys, is the document's.
-/
import Derived.Test.YtkhjnfplcaffnaaDj
import Derived.Great.BuildSlice
import Derived.Test.YtkhjnfplcaffnaaCkn
set_option linter.unusedVariables false
set_option linter.unusedSimpArgs false
set_option maxRecDepth 100000
namespace Go.Proofs.Ytkhjnfplcaffnaa
open Go.RowKit
attribute [local go_sem ↓] Go.wp_at_zero Go.wp_at_succ ld_k lv_k st_k eq_k ne_k bd_k ld_b lv_b st_b eq_b ne_b bd_25 ld_r lv_r st_rk eq_rk ne_rk bd_r ld_p lv_p st_px bd_p Nm.ld_a Nm.ld_n Nm.st_a Nm.st_n Nm.eq_a Nm.eq_n Nm.ne_a Nm.ne_n Nm.lv_a Nm.lv_n ld_a ld_n st_a st_n eq_a eq_n ne_a ne_n lv_a lv_n ld_l lv_l st_l bd_l bd_n bs_l bs_k ld_e lv_e bd_e bs_e ld_ac lv_ac st_ac
attribute [local go_sem] run_ldk run_lvk run_stk run_eqk run_nek run_bdk_z run_ldb run_lvb run_stb run_eqb run_neb run_ldr run_lvr run_strk run_eqrk run_nerk run_bdr_z run_ldp run_lvp run_stpx Nm.run_ld_a Nm.run_ld_n Nm.run_st_n Nm.run_eq_a Nm.run_eq_n Nm.run_ne_a Nm.run_ne_n Nm.run_lv_a Nm.run_lv_n Nm.rd_new Nm.rd_old Nm.rd_drew Nm.rd_drewN run_ld_a run_ld_n run_sw_a run_sw_n run_eq_a run_eq_n run_ne_a run_ne_n run_lv_a run_lv_n st_z ne_z eq_z rd_new rd_old rd_drew rd_drewN Shp.rd_new Shp.rd_old Shp.rd_drew Shp.rd_drewN Shp.rd_set Shp.tn_new Shp.tn_old Shp.tn_drew Shp.tn_drewN tn_new tn_old tn_drew tn_drewN rd_set setRow_alloc run_stn3 run_stt15 run_lvl run_ldl run_stl run_bdl run_bdn run_bdn0 run_bsl run_bsk run_lde run_lve run_bde run_bse run_bse0 run_lda run_lva run_sta Shp.rd_extk cell_ext

theorem run_bsk2 (w : World) (x : D.Ky) : (bsk 2 #[(0, .agg (kS.v x)), (1, .agg (kS.v x))]).run Try.prog w = .ok (.slice (some ⟨w.heap.size, 0, none⟩) 2 2) (w.alloc (.cells (kS.v x ++ kS.v x) 30)) := by
  have hi := key_info
  cases hf : Try.prog.info? 30 with
  | none => rw [hf] at hi; cases hi
  | some ie =>
    rw [hf] at hi
    simp only [Option.map_some, Option.some.injEq, Prod.mk.injEq] at hi
    obtain ⟨h1, h2, h3⟩ := hi
    have hl : (bys x.l).length = 25 := by rw [bys_len, x.len]
    have hz : ((kS.v x).size) = 25 := by simp [Shp.v]; exact hl
    have hF := Go.Great.fill_whole (s := 25) (by decide) [.agg (kS.v x), .agg (kS.v x)] ((Array.range (2 * 25)).map ((Value.agg (kS.v D.zK)).cells[· % (Value.agg (kS.v D.zK)).cells.size]!)) (by intro v hv; simp at hv; subst hv; exact hz) (by simp)
    have e : (([.agg (kS.v x), .agg (kS.v x)] : List Value).flatMap fun v => v.cells.toList).toArray = kS.v x ++ kS.v x := by
      simp [Value.cells]
    rw [e] at hF
    exact run_buildSlice w _ _ 2 _ _ ie (.agg (kS.v D.zK)) key_under hf h1 (by rw [h2]; decide) (by rw [h2]; decide) (by rw [h2]; exact hF)
attribute [local go_sem] run_bsk2
theorem two_keys (w : World) (x : D.Ky) : kS.rd (w.alloc (.cells (kS.v x ++ kS.v x) 30)) ⟨w.heap.size, 0, none⟩ = some x ∧ kS.rd (w.alloc (.cells (kS.v x ++ kS.v x) 30)) ⟨w.heap.size, 25, none⟩ = some x := by
  have h := World.news_of_block (heap_alloc_new w (.cells (kS.v x ++ kS.v x) 30))
  have hl : (bys x.l).length = 25 := by rw [bys_len, x.len]
  have e : (kS.v x ++ kS.v x).toList = bys x.l ++ bys x.l := by simp [Shp.v]; rfl
  rw [e] at h
  refine ⟨Shp.rd_of fun j u hu => ?_, Shp.rd_of fun j u hu => ?_⟩
  · have hu : (bys x.l)[j]? = some u := hu
    exact h j u (by rw [List.getElem?_append_left (List.getElem?_eq_some_iff.1 hu).1]; exact hu)
  · have hu : (bys x.l)[j]? = some u := hu
    have := h (25 + j) u (by rw [List.getElem?_append_right (by omega), hl, Nat.add_sub_cancel_left]; exact hu)
    rw [adr_o] at this ⊢
    rw [Nat.zero_add] at this
    exact this
theorem pdel_two {base g c c' : Nat} {W : World} {o : Option Tk} {A A' : Option Addr} (h : Pls base g W o A c) (hs : base ≤ W.heap.size) (k : D.Ky) (hd : DE W A' (Cr.del k (Cr.Tr.lso o)).length (Cr.del k (Cr.Tr.lso o))) (hc : (Cr.del k (Cr.Tr.lso o)).length ≤ c') {n : Int} (hn : (((if Cr.has k (Cr.Tr.lso o) then 1 else 0 : Nat)) : Int) = n) :
    Calls Try.prog 9 #[.pointer (some ⟨g, 0, none⟩), .slice (some ⟨W.heap.size, 0, none⟩) 2 2] (W.alloc (.cells (kS.v k ++ kS.v k) 30)) fun e w' => e = .returned (.int .i64 n) ∧ ∃ o', Pls base g w' o' A' c' ∧ Below base W w' ∧ Cr.Tr.lso o' = Cr.del k (Cr.Tr.lso o) := by
  have b1 := below_alloc_ W (.cells (kS.v k ++ kS.v k) 30)
  have := del_two g o k k W.heap.size 2 _ (h.tc.on b1) (two_keys W k).1 (two_keys W k).2 (fun hm => by
    rcases List.mem_cons.1 hm with hm | hm
    · have := h.tc.tr.lt; omega
    · cases o with
      | none => cases hm
      | some t => obtain ⟨cs, hB⟩ := (h.tc.tr.nd t rfl).lt _ hm; have := hB.lt; omega)
  rw [dls_two, hn] at this
  refine this.mono ?_
  rintro e w' ⟨rfl, o', hD⟩
  obtain ⟨h1, h2⟩ := (h.on b1).del (Nat.le_trans hs b1.size) (hd.on b1) hc hD
  exact ⟨rfl, o', h1, (b1.mono hs).trans h2, hD.ls⟩
set_option maxHeartbeats 16000000 in
theorem law_plays {w : World} {A : Option Addr} {n c : Nat} {acts : List Kac} (hr : Shp.Row aS w A n acts) (k : D.Ky) :
    Calls Try.prog 3 #[.slice A n c, .agg (kS.v k)] w fun e w' => e = .returned (.bool true) ∧ Below w.heap.size w w' := by
  obtain ⟨w0, hw0⟩ : ∃ w0, w.alloc (.cells (kS.v k) 30) = w0 := ⟨_, rfl⟩
  have k0 : kS.rd w0 ⟨w.heap.size, 0, none⟩ = some k := by rw [← hw0]; exact Shp.rd_new _ _ _ _ rfl
  have b0 : Below w.heap.size w w0 := by rw [← hw0]; exact below_alloc_ _ _
  have HL := Lib.hid hr.len
  have HR0 := hr.on b0
  have HR : Hid (∀ W, Below w0.heap.size w0 W → Shp.Row aS W A n acts) := Lib.hid fun W hW => HR0.on hW
  have CN := Lib.hid (new_any w0)
  have CF := Lib.hid (fun (k : D.Ky) W => lawof_any k W)
  have CK := Lib.hid (fun W => known_any W)
  have HB0 := Lib.hid b0
  obtain ⟨gp, hgp⟩ : ∃ gp, w.heap.size = gp := ⟨_, rfl⟩
  rw [hgp] at k0
  have HK := Lib.hid k0
  have HGP := Lib.hid hgp
  obtain ⟨base, hbs⟩ : ∃ base, w0.heap.size = base := ⟨_, rfl⟩
  have HBS := Lib.hid hbs
  have hs : Hid (∀ W : World, Below base w0 W → base ≤ W.heap.size) := Lib.hid fun W h => by have := h.size; omega
  rw [hbs] at HR CN
  have HKW : Hid (∀ W, Below base w0 W → kS.rd W ⟨gp, 0, none⟩ = some k) := Lib.hid fun W h => Shp.rd_on HK.out (by rw [hbs]; exact h)
  clear hr HR0 k0 b0
  go_enter Try.func3, Try.ntmps3
  go_wp2_with fail
  try rw [hw0]
  try rw [hgp]
  clear hw0 hgp hbs
  go_wp2_with (go_at_call 6; (with_reducible refine CN.out.mono ?_); rintro e w1 ⟨rfl, hT1, b1⟩; have HP0 : Hid (Pls base base w1 none none 0) := Lib.hid ⟨hT1, Nat.le_refl _, (fun q h => by cases h), DE.nil _ _, Nat.le_refl _⟩; have HB1 : Hid (Below base w0 w1) := Lib.hid b1; clear hT1 b1)
  go_loopw [6, 7] (fun s6 s7 wx => ∃ (j : Nat) (o : Option Tk) (A1 : Option Addr) (c1 : Nat), j ≤ 60 ∧ j ≤ n ∧ (Cr.Tr.lso o).length ≤ j ∧ s6 = .slice A1 (Cr.Tr.lso o).length c1 ∧ s7 = .int .i64 j ∧ Hid (Pls base base wx o A1 c1) ∧ Hid (Below base w0 wx)) (fun _ s7 _ => n - (intOf s7).toNat)
  case atStart => exact ⟨0, none, none, 0, Nat.zero_le _, Nat.zero_le _, Nat.le_refl _, rfl, rfl, HP0, HB1⟩
  case round =>
    clear HP0 HB1 CN
    obtain ⟨j, o, A1, c1, hjm, hjn, hlj, rfl, rfl, HP, HB⟩ := hrel
    have j0 : (0 : Int) ≤ (j : Int) := by omega
    by_cases hgo : j < n ∧ j < 60
    · have j1 : (j : Int) < (n : Int) := by omega
      have j2 : (j : Int) < 60 := by omega
      obtain ⟨a, ha⟩ : ∃ a, acts[j]? = some a := ⟨_, List.getElem?_eq_getElem (by have := HL.out; omega)⟩
      obtain ⟨ad, hAe, hal, hrd⟩ := (HR.out wr HB.out).rd ha
      subst hAe
      have hrd : aS.rd wr (ad.add (j * 27)) = some a := hrd
      obtain ⟨f0, f1, f2⟩ := ac_in (Shp.rd_new (S := aS) wr wr.heap.size 35 a rfl)
      have bA := below_alloc_ wr (.cells (aS.v a) 35)
      obtain ⟨ga, hga⟩ : ∃ ga, wr.heap.size = ga := ⟨_, rfl⟩
      obtain ⟨W1, hW1⟩ : ∃ W1, wr.alloc (.cells (aS.v a) 35) = W1 := ⟨_, rfl⟩
      rw [hga, hW1] at f0 f1 f2
      rw [hW1] at bA
      have HW1 := Lib.hid hW1
      have HGA := Lib.hid hga
      have HP1 := Lib.hid (HP.out.on bA)
      have HB1 := Lib.hid (below_up HB.out (hs.out _ HB.out) bA)
      obtain ⟨oo, y, v⟩ := a
      simp only at f0 f1 f2
      obtain ⟨l, hl⟩ : ∃ l, Cr.Tr.lso o = l := ⟨_, rfl⟩
      have HLL := Lib.hid hl
      clear ha hW1 bA hga hgo HP
      cases oo with
      | true =>
        have CD : Hid (∀ V, Below W1.heap.size W1 V → Calls Try.prog 7 #[.slice A1 l.length c1, .agg (rS.v (D.toR y))] V (DPd V (Cr.del y l) (Cr.has y l))) := Lib.hid (fun V hV => by
          have h := HP1.out.on hV
          have h2 := h.de; have h3 := h.cap; have h4 := h.up
          rw [HLL.out] at h2 h3 h4
          exact rdel_any h2 h3 h4 (by rw [← HLL.out]; omega) y)
        cases hb : Cr.has y l with
        | true =>
          have CT : Hid (∀ V A2 c2, Below W1.heap.size W1 V → DE V A2 (Cr.del y l).length (Cr.del y l) → (Cr.del y l).length ≤ c2 → Calls Try.prog 9 #[.pointer (some ⟨base, 0, none⟩), .slice (some ⟨V.heap.size, 0, none⟩) 2 2] (V.alloc (.cells (kS.v y ++ kS.v y) 30)) fun e w' => e = .returned (.int .i64 1) ∧ ∃ o', Pls base base w' o' A2 c2 ∧ Below base V w' ∧ Cr.Tr.lso o' = Cr.del y l) := Lib.hid (fun V A2 c2 hV hd hc => by
            have h := pdel_two (A' := A2) (c' := c2) (HP1.out.on hV) (Nat.le_trans (hs.out _ HB1.out) hV.size) y (by rw [HLL.out]; exact hd) (by rw [HLL.out]; exact hc) (n := 1) (by rw [HLL.out, hb]; rfl)
            rw [HLL.out] at h
            exact h)
          rw [hb] at CD
          have hdl : (Cr.del y l).length ≤ l.length := Cr.del_len_le
          rw [hl] at hlj
          try rw [hl]
          clear hb hl
          rw [← HW1.out, ← HGA.out] at f0 f1 f2
          go_wp2_with fail
          rw [HW1.out, HGA.out] at f0 f1 f2
          try rw [HW1.out]
          try rw [HGA.out]
          go_wp2_with (first
            | (go_at_call 8; (with_reducible refine (CF.out y _).mono ?_); rintro e w2 ⟨rfl, b2⟩; have B2 := Lib.hid b2; have CD2 := Lib.hid (CD.out w2 b2); have g1 := Shp.rd_on f1 b2; clear b2)
            | (go_at_call 7; (with_reducible refine CD2.out.mono ?_); rintro e w3 ⟨A3, c3, rfl, hc3, hd3, b3⟩; have B3 := Lib.hid (B2.out.trans (b3.mono B2.out.size)); have CT3 := Lib.hid (CT.out w3 A3 c3 B3.out hd3 hc3); have h1 := Shp.rd_on g1 b3; clear b3 hd3 g1)
            | (go_at_call 9; (with_reducible refine CT3.out.mono ?_); rintro e w4 ⟨rfl, o4, hp4, b4, hl4⟩; have HP4 := Lib.hid hp4; have HB4 := Lib.hid ((below_up HB1.out (hs.out _ HB1.out) B3.out).trans b4); have k5_ := HKW.out w4 HB4.out; clear hp4 b4)
            | fail)
          have CG5 := Lib.hid (get_any base o4 k w4 HP4.out.tc.tr)
          have CR5 := Lib.hid (fun W (hW : Below w4.heap.size w4 W) => rget_any (c := c3) (HP4.out.de.on hW).row HP4.out.up (by rw [hl4]; have := hdl; omega) k)
          have CH5 := Lib.hid (fun W (hW : Below w4.heap.size w4 W) => holds_any (c := c3) (HP4.out.tc.on hW) (HP4.out.de.on hW).row)
          have hlen5 : (Cr.del y l).length ≤ j + 1 := by have := hdl; omega
          rw [hl4] at CG5 CR5 CH5
          obtain ⟨gv, hgv⟩ : ∃ gv, got k (Cr.del y l) = gv := ⟨_, rfl⟩
          obtain ⟨nb, hnb⟩ : ∃ nb, Cr.has k (Cr.del y l) = nb := ⟨_, rfl⟩
          rw [hgv, hnb] at CG5 CR5
          have hnn : (nb != nb) = false := by cases nb <;> rfl
          obtain ⟨l5, hl5_⟩ : ∃ l5, Cr.del y l = l5 := ⟨_, rfl⟩
          rw [hl5_] at CR5 CH5 hlen5 hl4
          try rw [hl5_]
          clear hgv hnb hl5_
          go_wp2_with (first
            | (go_at_call 12; (with_reducible refine CG5.out.mono ?_); rintro e w6 ⟨rfl, b6⟩; have B6 := Lib.hid b6; have k6_ := Shp.rd_on k5_ b6; clear b6)
            | (go_at_call 8; (with_reducible refine (CF.out k _).mono ?_); rintro e w7 ⟨rfl, b7⟩; have B7 := Lib.hid (B6.out.trans (b7.mono B6.out.size)); have CR7 := Lib.hid (CR5.out w7 B7.out); clear b7)
            | (go_at_call 13; (with_reducible refine CR7.out.mono ?_); rintro e w8 ⟨rfl, b8⟩; have B8 := Lib.hid (B7.out.trans (b8.mono B7.out.size)); have CH8 := Lib.hid (CH5.out w8 B8.out); clear b8)
            | (go_at_call 14; (with_reducible refine CH8.out.mono ?_); rintro e w9 ⟨rfl, b9⟩; have B9 := Lib.hid (B8.out.trans (b9.mono B8.out.size)); clear b9)
            | fail)
          go_roundw
          case rel => exact ⟨j + 1, o4, A3, c3, by omega, by omega, by rw [hl4]; exact hlen5, by rw [hl4], by go_num, Lib.hid (HP4.out.on B9.out), Lib.hid (below_up HB4.out (hs.out _ HB4.out) B9.out)⟩
          case measure => simp [intOf]; omega
        | false =>
          have CT : Hid (∀ V A2 c2, Below W1.heap.size W1 V → DE V A2 (Cr.del y l).length (Cr.del y l) → (Cr.del y l).length ≤ c2 → Calls Try.prog 9 #[.pointer (some ⟨base, 0, none⟩), .slice (some ⟨V.heap.size, 0, none⟩) 2 2] (V.alloc (.cells (kS.v y ++ kS.v y) 30)) fun e w' => e = .returned (.int .i64 0) ∧ ∃ o', Pls base base w' o' A2 c2 ∧ Below base V w' ∧ Cr.Tr.lso o' = Cr.del y l) := Lib.hid (fun V A2 c2 hV hd hc => by
            have h := pdel_two (A' := A2) (c' := c2) (HP1.out.on hV) (Nat.le_trans (hs.out _ HB1.out) hV.size) y (by rw [HLL.out]; exact hd) (by rw [HLL.out]; exact hc) (n := 0) (by rw [HLL.out, hb]; rfl)
            rw [HLL.out] at h
            exact h)
          rw [hb] at CD
          have hdl : (Cr.del y l).length ≤ l.length := Cr.del_len_le
          rw [hl] at hlj
          try rw [hl]
          clear hb hl
          rw [← HW1.out, ← HGA.out] at f0 f1 f2
          go_wp2_with fail
          rw [HW1.out, HGA.out] at f0 f1 f2
          try rw [HW1.out]
          try rw [HGA.out]
          go_wp2_with (first
            | (go_at_call 8; (with_reducible refine (CF.out y _).mono ?_); rintro e w2 ⟨rfl, b2⟩; have B2 := Lib.hid b2; have CD2 := Lib.hid (CD.out w2 b2); have g1 := Shp.rd_on f1 b2; clear b2)
            | (go_at_call 7; (with_reducible refine CD2.out.mono ?_); rintro e w3 ⟨A3, c3, rfl, hc3, hd3, b3⟩; have B3 := Lib.hid (B2.out.trans (b3.mono B2.out.size)); have CT3 := Lib.hid (CT.out w3 A3 c3 B3.out hd3 hc3); have h1 := Shp.rd_on g1 b3; clear b3 hd3 g1)
            | (go_at_call 9; (with_reducible refine CT3.out.mono ?_); rintro e w4 ⟨rfl, o4, hp4, b4, hl4⟩; have HP4 := Lib.hid hp4; have HB4 := Lib.hid ((below_up HB1.out (hs.out _ HB1.out) B3.out).trans b4); have k5_ := HKW.out w4 HB4.out; clear hp4 b4)
            | fail)
          have CG5 := Lib.hid (get_any base o4 k w4 HP4.out.tc.tr)
          have CR5 := Lib.hid (fun W (hW : Below w4.heap.size w4 W) => rget_any (c := c3) (HP4.out.de.on hW).row HP4.out.up (by rw [hl4]; have := hdl; omega) k)
          have CH5 := Lib.hid (fun W (hW : Below w4.heap.size w4 W) => holds_any (c := c3) (HP4.out.tc.on hW) (HP4.out.de.on hW).row)
          have hlen5 : (Cr.del y l).length ≤ j + 1 := by have := hdl; omega
          rw [hl4] at CG5 CR5 CH5
          obtain ⟨gv, hgv⟩ : ∃ gv, got k (Cr.del y l) = gv := ⟨_, rfl⟩
          obtain ⟨nb, hnb⟩ : ∃ nb, Cr.has k (Cr.del y l) = nb := ⟨_, rfl⟩
          rw [hgv, hnb] at CG5 CR5
          have hnn : (nb != nb) = false := by cases nb <;> rfl
          obtain ⟨l5, hl5_⟩ : ∃ l5, Cr.del y l = l5 := ⟨_, rfl⟩
          rw [hl5_] at CR5 CH5 hlen5 hl4
          try rw [hl5_]
          clear hgv hnb hl5_
          go_wp2_with (first
            | (go_at_call 12; (with_reducible refine CG5.out.mono ?_); rintro e w6 ⟨rfl, b6⟩; have B6 := Lib.hid b6; have k6_ := Shp.rd_on k5_ b6; clear b6)
            | (go_at_call 8; (with_reducible refine (CF.out k _).mono ?_); rintro e w7 ⟨rfl, b7⟩; have B7 := Lib.hid (B6.out.trans (b7.mono B6.out.size)); have CR7 := Lib.hid (CR5.out w7 B7.out); clear b7)
            | (go_at_call 13; (with_reducible refine CR7.out.mono ?_); rintro e w8 ⟨rfl, b8⟩; have B8 := Lib.hid (B7.out.trans (b8.mono B7.out.size)); have CH8 := Lib.hid (CH5.out w8 B8.out); clear b8)
            | (go_at_call 14; (with_reducible refine CH8.out.mono ?_); rintro e w9 ⟨rfl, b9⟩; have B9 := Lib.hid (B8.out.trans (b9.mono B8.out.size)); clear b9)
            | fail)
          go_roundw
          case rel => exact ⟨j + 1, o4, A3, c3, by omega, by omega, by rw [hl4]; exact hlen5, by rw [hl4], by go_num, Lib.hid (HP4.out.on B9.out), Lib.hid (below_up HB4.out (hs.out _ HB4.out) B9.out)⟩
          case measure => simp [intOf]; omega
      | false =>
        have CD : Hid (∀ V, Below W1.heap.size W1 V → Calls Try.prog 10 #[.slice A1 l.length c1, .agg (rS.v (D.toR y)), .int .i64 v] V (DPd V (Cr.put y v l) (!Cr.has y l))) := Lib.hid (fun V hV => by
          have h := HP1.out.on hV
          have h2 := h.de; have h3 := h.cap; have h4 := h.up
          rw [HLL.out] at h2 h3 h4
          exact rput_any h2 h3 h4 (by rw [← HLL.out]; omega) y v)
        have HUP := Lib.hid (show Cr.Up l from by have := HP1.out.up; rwa [HLL.out] at this)
        obtain ⟨b, hb⟩ : ∃ b, (!Cr.has y l) = b := ⟨_, rfl⟩
        rw [hb] at CD
        have hbb : (b != b) = false := by cases b <;> rfl
        have CT : Hid (∀ V A2 c2, Below W1.heap.size W1 V → DE V A2 (Cr.put y v l).length (Cr.put y v l) → (Cr.put y v l).length ≤ c2 → Calls Try.prog 11 #[.pointer (some ⟨base, 0, none⟩), .agg (kS.v y), .int .i64 v] V fun e w' => e = .returned (.bool b) ∧ ∃ o', Pls base base w' o' A2 c2 ∧ Below base V w' ∧ Cr.Tr.lso o' = Cr.put y v l) := Lib.hid (fun V A2 c2 hV hd hc => by
          have h := pput_any (A' := A2) (c' := c2) (HP1.out.on hV) (Nat.le_trans (hs.out _ HB1.out) hV.size) y v (by rw [HLL.out]; exact hd) (by rw [HLL.out]; exact hc) (by omega)
          rw [HLL.out, hb] at h
          exact h)
        rw [hl] at hlj
        try rw [hl]
        clear hb hl
        rw [← HW1.out, ← HGA.out] at f0 f1 f2
        go_wp2_with fail
        rw [HW1.out, HGA.out] at f0 f1 f2
        try rw [HW1.out]
        try rw [HGA.out]
        obtain ⟨w2, hw2⟩ : ∃ w2, W1.drew = w2 := ⟨_, rfl⟩
        have s2 : Below W1.heap.size W1 w2 := by rw [← hw2]; exact (Below.refl _ _).drew
        refine wp_region_noPanic ?_
        refine wp_region_held_drew (S := fun W => Below W1.heap.size W1 W) (by kernel_rfl) (by rw [hw2]; exact s2) (fun sd => ?_)
        rw [hw2]
        clear hw2 sd
        refine takeS 0 (some 55) ?vm0 (by kernel_rfl) (by kernel_rfl) (by kernel_rfl) (by kernel_rfl) (fun _ _ _ h => h) (by rfl) ?hym0 s2 ?restm0
        case hym0 => (intro o ho W hW; simp only [List.getElem?_toArray, List.getElem?_cons_succ, List.getElem?_cons_zero, Option.some.injEq] at ho; subst ho; go_simp; try rfl)
        try simp only [Act.put, List.setIfInBounds_toArray, List.set_cons_zero, List.set_cons_succ]
        refine takeS 1 (some 56) ?vm1 (by kernel_rfl) (by kernel_rfl) (by kernel_rfl) (by kernel_rfl) (fun _ _ _ h => h) (by rfl) ?hym1 s2 ?restm1
        case hym1 => (intro o ho W hW; simp only [List.getElem?_toArray, List.getElem?_cons_succ, List.getElem?_cons_zero, Option.some.injEq] at ho; subst ho; go_simp; try rfl)
        try simp only [Act.put, List.setIfInBounds_toArray, List.set_cons_zero, List.set_cons_succ]
        refine takeS 2 (some 57) ?vm2 (by kernel_rfl) (by kernel_rfl) (by kernel_rfl) (by kernel_rfl) (fun _ _ _ h => h) (by rfl) ?hym2 s2 ?restm2
        case hym2 => (intro o ho W hW; simp only [List.getElem?_toArray, List.getElem?_cons_succ, List.getElem?_cons_zero, Option.some.injEq] at ho; subst ho; have f_ := Shp.rd_on f1 hW; go_simp; try rfl)
        try simp only [Act.put, List.setIfInBounds_toArray, List.set_cons_zero, List.set_cons_succ]
        refine takeS 4 (some 59) ?vm4 (by kernel_rfl) (by kernel_rfl) (by kernel_rfl) (by kernel_rfl) (fun _ _ _ h => h) (by rfl) ?hym4 s2 ?restm4
        case hym4 => (intro o ho W hW; simp only [List.getElem?_toArray, List.getElem?_cons_succ, List.getElem?_cons_zero, Option.some.injEq] at ho; subst ho; go_simp; try rfl)
        try simp only [Act.put, List.setIfInBounds_toArray, List.set_cons_zero, List.set_cons_succ]
        refine takeS 5 (some 60) ?vm5 (by kernel_rfl) (by kernel_rfl) (by kernel_rfl) (by kernel_rfl) (fun _ _ _ h => h) (by rfl) ?hym5 s2 ?restm5
        case hym5 => (intro o ho W hW; simp only [List.getElem?_toArray, List.getElem?_cons_succ, List.getElem?_cons_zero, Option.some.injEq] at ho; subst ho; have f_ := cell_kept_ hW f2; go_simp; try rfl)
        try simp only [Act.put, List.setIfInBounds_toArray, List.set_cons_zero, List.set_cons_succ]
        refine nextS 3 (by kernel_rfl) (by rfl) (fun o ho K hK => ?_)
        simp only [List.getElem?_toArray, List.getElem?_cons_succ, List.getElem?_cons_zero, Option.some.injEq] at ho; subst ho
        go_simp
        (go_at_call 8; (with_reducible refine (CF.out y _).mono ?_); rintro e w3 ⟨rfl, b3⟩)
        have s3 := below_up s2 s2.size b3
        refine hK.out _ _ s3 (fun _ => ?_)
        clear hK K
        try simp only [Act.put, List.setIfInBounds_toArray, List.set_cons_zero, List.set_cons_succ]
        refine nextS 6 (by kernel_rfl) (by rfl) (fun o ho K hK => ?_)
        simp only [List.getElem?_toArray, List.getElem?_cons_succ, List.getElem?_cons_zero, Option.some.injEq] at ho; subst ho
        go_simp
        (go_at_call 10; (with_reducible refine (CD.out _ s3).mono ?_); rintro e w4 ⟨A3, c3, rfl, hc3, hd3, b4⟩)
        have s4 := below_up s3 s3.size b4
        refine hK.out _ _ s4 (fun _ => ?_)
        clear hK K
        try simp only [Act.put, List.setIfInBounds_toArray, List.set_cons_zero, List.set_cons_succ]
        refine takeS 7 (some 54) ?vm7 (by kernel_rfl) (by kernel_rfl) (by kernel_rfl) (by kernel_rfl) (fun _ _ _ h => h) (by rfl) ?hym7 s4 ?restm7
        case hym7 => (intro o ho W hW; simp only [List.getElem?_toArray, List.getElem?_cons_succ, List.getElem?_cons_zero, Option.some.injEq] at ho; subst ho; go_simp; try rfl)
        try simp only [Act.put, List.setIfInBounds_toArray, List.set_cons_zero, List.set_cons_succ]
        refine takeS 8 (some 62) ?vm8 (by kernel_rfl) (by kernel_rfl) (by kernel_rfl) (by kernel_rfl) (fun _ _ _ h => h) (by rfl) ?hym8 s4 ?restm8
        case hym8 => (intro o ho W hW; simp only [List.getElem?_toArray, List.getElem?_cons_succ, List.getElem?_cons_zero, Option.some.injEq] at ho; subst ho; go_simp; try rfl)
        try simp only [Act.put, List.setIfInBounds_toArray, List.set_cons_zero, List.set_cons_succ]
        refine takeS 9 (some 63) ?vm9 (by kernel_rfl) (by kernel_rfl) (by kernel_rfl) (by kernel_rfl) (fun _ _ _ h => h) (by rfl) ?hym9 s4 ?restm9
        case hym9 => (intro o ho W hW; simp only [List.getElem?_toArray, List.getElem?_cons_succ, List.getElem?_cons_zero, Option.some.injEq] at ho; subst ho; go_simp; try rfl)
        try simp only [Act.put, List.setIfInBounds_toArray, List.set_cons_zero, List.set_cons_succ]
        refine takeS 10 (some 12) ?vm10 (by kernel_rfl) (by kernel_rfl) (by kernel_rfl) (by kernel_rfl) (fun _ _ _ h => h) (by rfl) ?hym10 s4 ?restm10
        case hym10 => (intro o ho W hW; simp only [List.getElem?_toArray, List.getElem?_cons_succ, List.getElem?_cons_zero, Option.some.injEq] at ho; subst ho; go_simp; try rfl)
        try simp only [Act.put, List.setIfInBounds_toArray, List.set_cons_zero, List.set_cons_succ]
        refine takeS 11 (some 13) ?vm11 (by kernel_rfl) (by kernel_rfl) (by kernel_rfl) (by kernel_rfl) (fun _ _ _ h => h) (by rfl) ?hym11 s4 ?restm11
        case hym11 => (intro o ho W hW; simp only [List.getElem?_toArray, List.getElem?_cons_succ, List.getElem?_cons_zero, Option.some.injEq] at ho; subst ho; go_simp; try rfl)
        try simp only [Act.put, List.setIfInBounds_toArray, List.set_cons_zero, List.set_cons_succ]
        refine wpAnyH_done (by kernel_rfl) ?_ _
        refine NoPanic.normal ?_
        have B4 := Lib.hid s4
        have CT4 := Lib.hid (CT.out w4 A3 c3 s4 hd3 hc3)
        have g1 := Shp.rd_on f1 s4
        have g2 := cell_kept_ s4 f2
        clear s2 s3 s4 b3 b4 hd3 f0 f1 f2
        go_wp2_with (first
          | (go_at_call 11; (with_reducible refine CT4.out.mono ?_); rintro e w5 ⟨rfl, o5, hp5, b5, hl5⟩; have HP5 := Lib.hid hp5; have HB5 := Lib.hid ((below_up HB1.out (hs.out _ HB1.out) B4.out).trans b5); have k5_ := HKW.out w5 HB5.out; clear hp5 b5)
          | fail)
        have hpl : (Cr.put y v l).length ≤ l.length + 1 := Cr.put_len HUP.out
        have CG5 := Lib.hid (get_any base o5 k w5 HP5.out.tc.tr)
        have CR5 := Lib.hid (fun W (hW : Below w5.heap.size w5 W) => rget_any (c := c3) (HP5.out.de.on hW).row HP5.out.up (by rw [hl5]; have := hpl; omega) k)
        have CH5 := Lib.hid (fun W (hW : Below w5.heap.size w5 W) => holds_any (c := c3) (HP5.out.tc.on hW) (HP5.out.de.on hW).row)
        have hlen5 : (Cr.put y v l).length ≤ j + 1 := by have := hpl; omega
        rw [hl5] at CG5 CR5 CH5
        obtain ⟨gv, hgv⟩ : ∃ gv, got k (Cr.put y v l) = gv := ⟨_, rfl⟩
        obtain ⟨nb, hnb⟩ : ∃ nb, Cr.has k (Cr.put y v l) = nb := ⟨_, rfl⟩
        rw [hgv, hnb] at CG5 CR5
        have hnn : (nb != nb) = false := by cases nb <;> rfl
        obtain ⟨l5, hl5_⟩ : ∃ l5, Cr.put y v l = l5 := ⟨_, rfl⟩
        rw [hl5_] at CR5 CH5 hlen5 hl5
        try rw [hl5_]
        clear hgv hnb hl5_
        go_wp2_with (first
          | (go_at_call 12; (with_reducible refine CG5.out.mono ?_); rintro e w6 ⟨rfl, b6⟩; have B6 := Lib.hid b6; have k6_ := Shp.rd_on k5_ b6; clear b6)
          | (go_at_call 8; (with_reducible refine (CF.out k _).mono ?_); rintro e w7 ⟨rfl, b7⟩; have B7 := Lib.hid (B6.out.trans (b7.mono B6.out.size)); have CR7 := Lib.hid (CR5.out w7 B7.out); clear b7)
          | (go_at_call 13; (with_reducible refine CR7.out.mono ?_); rintro e w8 ⟨rfl, b8⟩; have B8 := Lib.hid (B7.out.trans (b8.mono B7.out.size)); have CH8 := Lib.hid (CH5.out w8 B8.out); clear b8)
          | (go_at_call 14; (with_reducible refine CH8.out.mono ?_); rintro e w9 ⟨rfl, b9⟩; have B9 := Lib.hid (B8.out.trans (b9.mono B8.out.size)); clear b9)
          | fail)
        go_roundw
        case rel => exact ⟨j + 1, o5, A3, c3, by omega, by omega, by rw [hl5]; exact hlen5, by rw [hl5], by go_num, Lib.hid (HP5.out.on B9.out), Lib.hid (below_up HB5.out (hs.out _ HB5.out) B9.out)⟩
        case measure => simp [intOf]; omega
    · have TWO : ¬ ((j : Int) < (n : Int)) ∨ ((j : Int) < (n : Int) ∧ ¬ ((j : Int) < 60)) := by omega
      clear hgo
      rcases TWO with i1 | ⟨i1, i2⟩
      · go_wp2_with (first
          | (go_at_call 15; (with_reducible refine (CK.out _).mono ?_); rintro e w2 ⟨rfl, b2⟩)
          | fail)
        go_ret
        exact ⟨rfl, HB0.out.trans ((below_up HB.out (hs.out _ HB.out) b2).mono (by have := HB0.out.size; have := HBS.out; omega))⟩
      · go_wp2_with (first
          | (go_at_call 15; (with_reducible refine (CK.out _).mono ?_); rintro e w2 ⟨rfl, b2⟩)
          | fail)
        go_ret
        exact ⟨rfl, HB0.out.trans ((below_up HB.out (hs.out _ HB.out) b2).mono (by have := HB0.out.size; have := HBS.out; omega))⟩
end Go.Proofs.Ytkhjnfplcaffnaa
