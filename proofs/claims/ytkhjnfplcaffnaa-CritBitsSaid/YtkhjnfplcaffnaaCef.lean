/-
  A tree and the document's list behind some calls.
-/
import Derived.Test.YtkhjnfplcaffnaaDb
import Derived.Test.YtkhjnfplcaffnaaCde
import Derived.Test.YtkhjnfplcaffnaaCad
set_option linter.unusedVariables false
set_option linter.unusedSimpArgs false
set_option maxRecDepth 100000
namespace Go.Proofs.Ytkhjnfplcaffnaa
open Go.RowKit
attribute [local go_sem ↓] Go.wp_at_zero Go.wp_at_succ ld_k lv_k st_k eq_k ne_k bd_k ld_b lv_b st_b eq_b ne_b bd_25 ld_r lv_r st_rk eq_rk ne_rk bd_r ld_p lv_p st_px bd_p Nm.ld_a Nm.ld_n Nm.st_a Nm.st_n Nm.eq_a Nm.eq_n Nm.ne_a Nm.ne_n Nm.lv_a Nm.lv_n ld_a ld_n st_a st_n eq_a eq_n ne_a ne_n lv_a lv_n ld_l lv_l st_l bd_l bd_n bs_l bs_k ld_e lv_e bd_e bs_e ld_ac lv_ac st_ac
attribute [local go_sem] run_ldk run_lvk run_stk run_eqk run_nek run_bdk_z run_ldb run_lvb run_stb run_eqb run_neb run_ldr run_lvr run_strk run_eqrk run_nerk run_bdr_z run_ldp run_lvp run_stpx Nm.run_ld_a Nm.run_ld_n Nm.run_st_n Nm.run_eq_a Nm.run_eq_n Nm.run_ne_a Nm.run_ne_n Nm.run_lv_a Nm.run_lv_n Nm.rd_new Nm.rd_old Nm.rd_drew Nm.rd_drewN run_ld_a run_ld_n run_sw_a run_sw_n run_eq_a run_eq_n run_ne_a run_ne_n run_lv_a run_lv_n st_z ne_z eq_z rd_new rd_old rd_drew rd_drewN Shp.rd_new Shp.rd_old Shp.rd_drew Shp.rd_drewN Shp.rd_set Shp.tn_new Shp.tn_old Shp.tn_drew Shp.tn_drewN tn_new tn_old tn_drew tn_drewN rd_set setRow_alloc run_stn3 run_stt15 run_lvl run_ldl run_stl run_bdl run_bdn run_bdn0 run_bsl run_bsk run_lde run_lve run_bde run_bse run_bse0 run_lda run_lva run_sta Shp.rd_extk cell_ext

/-- A tree and a list that hold the same. -/
structure Pls (base g : Nat) (W : World) (o : Option Tk) (A : Option Addr) (c : Nat) : Prop where
  tc : TC W g o
  gb : base ≤ g
  ob : ∀ q ∈ blo o, base ≤ q
  de : DE W A (Cr.Tr.lso o).length (Cr.Tr.lso o)
  cap : (Cr.Tr.lso o).length ≤ c
theorem Pls.on {base g c : Nat} {W V : World} {o : Option Tk} {A : Option Addr} (h : Pls base g W o A c) (hb : Below W.heap.size W V) : Pls base g V o A c := ⟨h.tc.on hb, h.gb, h.ob, h.de.on hb, h.cap⟩
theorem Pls.up {base g c : Nat} {W : World} {o : Option Tk} {A : Option Addr} (h : Pls base g W o A c) : Cr.Up (Cr.Tr.lso o) := up_of h.tc.tr
theorem tree_ty {W : World} {g : Nat} {o : Option Tk} (h : TC W g o) : ∀ q, q ∈ g :: blo o → ∀ cs, W.heap[q]? ≠ some (Obj.cells cs 59 (0, 0)) := by
  intro q hq cs hc
  rcases List.mem_cons.1 hq with rfl | hq
  · have := hc.symm.trans h.blk.out
    injection this with this
    injection this with _ h3
    exact absurd h3 (by decide)
  · cases o with
    | none => cases hq
    | some t =>
      obtain ⟨ds, hB⟩ := (h.tr.nd t rfl).lt q hq
      have := hc.symm.trans hB.out
      injection this with this
      injection this with _ h3
      exact absurd h3 (by decide)
theorem DE.ov {W V : World} {g n : Nat} {o : Option Tk} {A : Option Addr} {l : List Lf} (h : DE W A n l) (hT : TC W g o) (hO : Ov W.heap.size (g :: blo o) W V) : DE V A n l :=
  h.kept (S := fun q => q ∈ g :: blo o) hO.size (fun i hi hS => hO.block i hi hS) (tree_ty hT)
theorem ov_below {W V : World} {base g : Nat} {o : Option Tk} (hO : Ov W.heap.size (g :: blo o) W V) (hs : base ≤ W.heap.size) (hg : base ≤ g) (ho : ∀ q ∈ blo o, base ≤ q) : Below base W V :=
  ⟨hO.os, hO.tape, hO.output, hO.size, fun k hk => hO.block k (by omega) (fun hm => by
    rcases List.mem_cons.1 hm with rfl | hm
    · omega
    · have := ho k hm; omega)⟩
theorem Pls.del {base g c c' : Nat} {W V : World} {o o' : Option Tk} {A A' : Option Addr} {l : List Lf} (h : Pls base g W o A c) (hs : base ≤ W.heap.size) (hd : DE W A' l.length l) (hc : l.length ≤ c') (hD : DelC W g o V o' l) : Pls base g V o' A' c' ∧ Below base W V :=
  ⟨⟨hD.tc, h.gb, fun q hq => h.ob q (hD.old q hq), by rw [hD.ls]; exact hd.ov h.tc hD.ov, by rw [hD.ls]; exact hc⟩, ov_below hD.ov hs h.gb h.ob⟩
theorem Pls.put {base g c c' : Nat} {W V : World} {o o' : Option Tk} {A A' : Option Addr} {k : D.Ky} {v : Int} (h : Pls base g W o A c) (hs : base ≤ W.heap.size) (hd : DE W A' (Cr.put k v (Cr.Tr.lso o)).length (Cr.put k v (Cr.Tr.lso o))) (hc : (Cr.put k v (Cr.Tr.lso o)).length ≤ c') (hD : PutC W g o k v V o') : Pls base g V o' A' c' ∧ Below base W V :=
  ⟨⟨hD.tc, h.gb, fun q hq => (hD.old q hq).elim (h.ob q) (fun h1 => Nat.le_trans hs h1), by rw [hD.ls]; exact hd.ov h.tc hD.ov, by rw [hD.ls]; exact hc⟩, ov_below hD.ov hs h.gb h.ob⟩
theorem dls_one (l : List Lf) (k : D.Ky) : dls l [k] = (Cr.del k l, if Cr.has k l then 1 else 0) := by simp [dls, dst]
theorem dls_two (l : List Lf) (k : D.Ky) : dls l [k, k] = (Cr.del k l, if Cr.has k l then 1 else 0) := by
  simp only [dls, List.foldl_cons, List.foldl_nil, dst]
  rw [Cr.has_del, Cr.del_not (Cr.has_del k l)]
  simp
/-- One key out. -/
theorem pdel_one {base g c c' : Nat} {W : World} {o : Option Tk} {A A' : Option Addr} (h : Pls base g W o A c) (hs : base ≤ W.heap.size) (k : D.Ky) (hd : DE W A' (Cr.del k (Cr.Tr.lso o)).length (Cr.del k (Cr.Tr.lso o))) (hc : (Cr.del k (Cr.Tr.lso o)).length ≤ c') {n : Nat} (hn : (if Cr.has k (Cr.Tr.lso o) then 1 else 0) = n) :
    Calls Try.prog 9 #[.pointer (some ⟨g, 0, none⟩), .slice (some ⟨W.heap.size, 0, none⟩) 1 1] (W.alloc (.cells (kS.v k) 30)) fun e w' => e = .returned (.int .i64 (n : Nat)) ∧ ∃ o', Pls base g w' o' A' c' ∧ Below base W w' ∧ Cr.Tr.lso o' = Cr.del k (Cr.Tr.lso o) := by
  have b1 := below_alloc_ W (.cells (kS.v k) 30)
  have := del_one g o k W.heap.size 1 _ (h.tc.on b1) (Shp.rd_new (S := kS) W W.heap.size 30 k rfl) (fun hm => by
    rcases List.mem_cons.1 hm with hm | hm
    · have := h.tc.tr.lt; omega
    · cases o with
      | none => cases hm
      | some t => obtain ⟨cs, hB⟩ := (h.tc.tr.nd t rfl).lt _ hm; have := hB.lt; omega)
  rw [dls_one, hn] at this
  refine this.mono ?_
  rintro e w' ⟨rfl, o', hD⟩
  obtain ⟨h1, h2⟩ := (h.on b1).del (Nat.le_trans hs b1.size) (hd.on b1) hc hD
  exact ⟨rfl, o', h1, (b1.mono hs).trans h2, hD.ls⟩
theorem pput_any {base g c c' : Nat} {W : World} {o : Option Tk} {A A' : Option Addr} (h : Pls base g W o A c) (hs : base ≤ W.heap.size) (k : D.Ky) (v : Int) (hd : DE W A' (Cr.put k v (Cr.Tr.lso o)).length (Cr.put k v (Cr.Tr.lso o))) (hc : (Cr.put k v (Cr.Tr.lso o)).length ≤ c') (hl : (Cr.Tr.lso o).length < 1000) :
    Calls Try.prog 11 #[.pointer (some ⟨g, 0, none⟩), .agg (kS.v k), .int .i64 v] W fun e w' => e = .returned (.bool (!Cr.has k (Cr.Tr.lso o))) ∧ ∃ o', Pls base g w' o' A' c' ∧ Below base W w' ∧ Cr.Tr.lso o' = Cr.put k v (Cr.Tr.lso o) :=
  (put_any g o k v W h.tc hl).mono fun e w' ⟨h1, o', hP⟩ => by
    obtain ⟨h2, h3⟩ := h.put hs hd hc hP
    exact ⟨h1, o', h2, h3, hP.ls⟩
/-- What made tells. -/
def MadeC (w : World) (j : Nat) (e : Ending) (w' : World) : Prop := ∃ g o A c, e = .returned (.tuple #[.pointer (some ⟨g, 0, none⟩), .slice A (Cr.Tr.lso o).length c, .bool true]) ∧ Pls w.heap.size g w' o A c ∧ Below w.heap.size w w' ∧ (Cr.Tr.lso o).length ≤ j
set_option maxHeartbeats 8000000 in
theorem made_any {w : World} {A : Option Addr} {n c : Nat} {acts : List Kac} (hr : Shp.Row aS w A n acts) (m : Nat) (hm : m ≤ 60) :
    Calls Try.prog 16 #[.slice A n c, .int .i64 (m : Nat)] w (MadeC w m) := by
  have HL := Lib.hid hr.len
  have HR : Hid (∀ W, Below w.heap.size w W → Shp.Row aS W A n acts) := Lib.hid fun W hW => hr.on hW
  have CN := Lib.hid (fun W => new_any W)
  have CF := Lib.hid (fun (k : D.Ky) W => lawof_any k W)
  obtain ⟨base, hbs⟩ : ∃ base, w.heap.size = base := ⟨_, rfl⟩
  have HBS := Lib.hid hbs
  have hs : Hid (∀ W : World, Below base w W → base ≤ W.heap.size) := Lib.hid fun W h => by have := h.size; omega
  rw [hbs] at HR
  clear hr
  go_enter Try.func16, Try.ntmps16
  go_wp2_with (go_at_call 6; (with_reducible refine (CN.out _).mono ?_); rintro e w1 ⟨rfl, hT1, b1⟩; have HP0 : Hid (Pls base base w1 none none 0) := Lib.hid (by rw [hbs] at hT1; exact ⟨hT1, Nat.le_refl _, (fun q h => by cases h), DE.nil _ _, Nat.le_refl _⟩); have HB0 : Hid (Below base w w1) := Lib.hid (by rw [hbs] at b1; exact b1); clear hT1 b1)
  try rw [hbs]
  go_loopw [8, 9] (fun s8 s9 wx => ∃ (j : Nat) (o : Option Tk) (A1 : Option Addr) (c1 : Nat), j ≤ m ∧ j ≤ n ∧ (Cr.Tr.lso o).length ≤ j ∧ s8 = .slice A1 (Cr.Tr.lso o).length c1 ∧ s9 = .int .i64 j ∧ Hid (Pls base base wx o A1 c1) ∧ Hid (Below base w wx)) (fun _ s9 _ => n - (intOf s9).toNat)
  case atStart => exact ⟨0, none, none, 0, Nat.zero_le _, Nat.zero_le _, Nat.le_refl _, rfl, rfl, HP0, HB0⟩
  case round =>
    clear HP0 HB0
    obtain ⟨j, o, A1, c1, hjm, hjn, hlj, rfl, rfl, HP, HB⟩ := hrel
    have j0 : (0 : Int) ≤ (j : Int) := by omega
    by_cases hgo : j < n ∧ j < m
    · have j1 : (j : Int) < (n : Int) := by omega
      have j2 : (j : Int) < (m : Int) := by omega
      obtain ⟨a, ha⟩ : ∃ a, acts[j]? = some a := ⟨_, List.getElem?_eq_getElem (by have := HL.out; omega)⟩
      obtain ⟨ad, hAe, hal, hrd⟩ := (HR.out wr HB.out).rd ha
      have hAe2 := hAe
      subst hAe
      have hrd : aS.rd wr (ad.add (j * 27)) = some a := hrd
      obtain ⟨f0, f1, f2⟩ := ac_in (Shp.rd_new (S := aS) wr wr.heap.size 35 a rfl)
      have bA := below_alloc_ wr (.cells (aS.v a) 35)
      obtain ⟨ga, hga⟩ : ∃ ga, wr.heap.size = ga := ⟨_, rfl⟩
      obtain ⟨W1, hW1⟩ : ∃ W1, wr.alloc (.cells (aS.v a) 35) = W1 := ⟨_, rfl⟩
      rw [hga, hW1] at f0 f1 f2
      rw [hW1] at bA
      have HW1 := Lib.hid hW1
      have HGA := Lib.hid hga
      have HP1 := Lib.hid (HP.out.on bA)
      have HB1 := Lib.hid (below_up HB.out (hs.out _ HB.out) bA)
      obtain ⟨oo, k, v⟩ := a
      simp only at f0 f1 f2
      obtain ⟨l, hl⟩ : ∃ l, Cr.Tr.lso o = l := ⟨_, rfl⟩
      have HLL := Lib.hid hl
      clear ha hW1 bA hga hgo HP
      cases oo with
      | true =>
        have CD : Hid (∀ V, Below W1.heap.size W1 V → Calls Try.prog 7 #[.slice A1 l.length c1, .agg (rS.v (D.toR k))] V (DPd V (Cr.del k l) (Cr.has k l))) := Lib.hid (fun V hV => by
          have h := HP1.out.on hV
          have h2 := h.de; have h3 := h.cap; have h4 := h.up
          rw [HLL.out] at h2 h3 h4
          exact rdel_any h2 h3 h4 (by rw [← HLL.out]; omega) k)
        obtain ⟨b, hb⟩ : ∃ b, Cr.has k l = b := ⟨_, rfl⟩
        obtain ⟨q, hq⟩ : ∃ q : Nat, (if b then 1 else 0) = q := ⟨_, rfl⟩
        rw [hb] at CD
        have CT : Hid (∀ V A2 c2, Below W1.heap.size W1 V → DE V A2 (Cr.del k l).length (Cr.del k l) → (Cr.del k l).length ≤ c2 → Calls Try.prog 9 #[.pointer (some ⟨base, 0, none⟩), .slice (some ⟨V.heap.size, 0, none⟩) 1 1] (V.alloc (.cells (kS.v k) 30)) fun e w' => e = .returned (.int .i64 (q : Nat)) ∧ ∃ o', Pls base base w' o' A2 c2 ∧ Below base V w' ∧ Cr.Tr.lso o' = Cr.del k l) := Lib.hid (fun V A2 c2 hV hd hc => by
          have h := pdel_one (A' := A2) (c' := c2) (HP1.out.on hV) (Nat.le_trans (hs.out _ HB1.out) hV.size) k (by rw [HLL.out]; exact hd) (by rw [HLL.out]; exact hc) (n := q) (by rw [HLL.out, hb]; exact hq)
          rw [HLL.out] at h
          exact h)
        have hq2 : ((q : Int) == 1) = b := by rw [← hq]; cases b <;> rfl
        rw [hl] at hlj
        try rw [hl]
        clear hb hl
        rw [← HW1.out, ← HGA.out] at f0 f1 f2
        go_wp2_with fail
        rw [HW1.out, HGA.out] at f0 f1 f2
        try rw [HW1.out]
        try rw [HGA.out]
        go_wp2_with (first
          | (go_at_call 8; (with_reducible refine (CF.out k _).mono ?_); rintro e w2 ⟨rfl, b2⟩; have B2 := Lib.hid b2; have CD2 := Lib.hid (CD.out w2 b2); have g1 := Shp.rd_on f1 b2; clear b2)
          | (go_at_call 7; (with_reducible refine CD2.out.mono ?_); rintro e w3 ⟨A3, c3, rfl, hc3, hd3, b3⟩; have B3 := Lib.hid (B2.out.trans (b3.mono B2.out.size)); have CT3 := Lib.hid (CT.out w3 A3 c3 B3.out hd3 hc3); have h1 := Shp.rd_on g1 b3; clear b3 hd3 g1)
          | (go_at_call 9; (with_reducible refine CT3.out.mono ?_); rintro e w4 ⟨rfl, o4, hp4, b4, hl4⟩; have HP4 := Lib.hid hp4; have HB4 := Lib.hid ((below_up HB1.out (hs.out _ HB1.out) B3.out).trans b4); clear hp4 b4)
          | fail)
        go_roundw
        case rel => exact ⟨j + 1, o4, A3, c3, by omega, by omega, by rw [hl4]; exact Nat.le_trans Cr.del_len_le (by omega), by rw [hl4], by go_num, HP4, HB4⟩
        case measure => simp [intOf]; omega
      | false =>
        have CD : Hid (∀ V, Below W1.heap.size W1 V → Calls Try.prog 10 #[.slice A1 l.length c1, .agg (rS.v (D.toR k)), .int .i64 v] V (DPd V (Cr.put k v l) (!Cr.has k l))) := Lib.hid (fun V hV => by
          have h := HP1.out.on hV
          have h2 := h.de; have h3 := h.cap; have h4 := h.up
          rw [HLL.out] at h2 h3 h4
          exact rput_any h2 h3 h4 (by rw [← HLL.out]; omega) k v)
        have HUP := Lib.hid (show Cr.Up l from by have := HP1.out.up; rwa [HLL.out] at this)
        obtain ⟨b, hb⟩ : ∃ b, (!Cr.has k l) = b := ⟨_, rfl⟩
        rw [hb] at CD
        have CT : Hid (∀ V A2 c2, Below W1.heap.size W1 V → DE V A2 (Cr.put k v l).length (Cr.put k v l) → (Cr.put k v l).length ≤ c2 → Calls Try.prog 11 #[.pointer (some ⟨base, 0, none⟩), .agg (kS.v k), .int .i64 v] V fun e w' => e = .returned (.bool b) ∧ ∃ o', Pls base base w' o' A2 c2 ∧ Below base V w' ∧ Cr.Tr.lso o' = Cr.put k v l) := Lib.hid (fun V A2 c2 hV hd hc => by
          have h := pput_any (A' := A2) (c' := c2) (HP1.out.on hV) (Nat.le_trans (hs.out _ HB1.out) hV.size) k v (by rw [HLL.out]; exact hd) (by rw [HLL.out]; exact hc) (by omega)
          rw [HLL.out, hb] at h
          exact h)
        rw [hl] at hlj
        try rw [hl]
        clear hb hl
        rw [← HW1.out, ← HGA.out] at f0 f1 f2
        go_wp2_with fail
        rw [HW1.out, HGA.out] at f0 f1 f2
        try rw [HW1.out]
        try rw [HGA.out]
        obtain ⟨w2, hw2⟩ : ∃ w2, W1.drew = w2 := ⟨_, rfl⟩
        have s2 : Below W1.heap.size W1 w2 := by rw [← hw2]; exact (Below.refl _ _).drew
        refine wp_region_noPanic ?_
        refine wp_region_held_drew (S := fun W => Below W1.heap.size W1 W) (by kernel_rfl) (by rw [hw2]; exact s2) (fun sd => ?_)
        rw [hw2]
        clear hw2 sd
        refine takeS 0 (some 53) ?vm0 (by kernel_rfl) (by kernel_rfl) (by kernel_rfl) (by kernel_rfl) (fun _ _ _ h => h) (by rfl) ?hym0 s2 ?restm0
        case hym0 => (intro o ho W hW; simp only [List.getElem?_toArray, List.getElem?_cons_succ, List.getElem?_cons_zero, Option.some.injEq] at ho; subst ho; go_simp; try rfl)
        try simp only [Act.put, List.setIfInBounds_toArray, List.set_cons_zero, List.set_cons_succ]
        refine takeS 1 (some 54) ?vm1 (by kernel_rfl) (by kernel_rfl) (by kernel_rfl) (by kernel_rfl) (fun _ _ _ h => h) (by rfl) ?hym1 s2 ?restm1
        case hym1 => (intro o ho W hW; simp only [List.getElem?_toArray, List.getElem?_cons_succ, List.getElem?_cons_zero, Option.some.injEq] at ho; subst ho; go_simp; try rfl)
        try simp only [Act.put, List.setIfInBounds_toArray, List.set_cons_zero, List.set_cons_succ]
        refine takeS 2 (some 55) ?vm2 (by kernel_rfl) (by kernel_rfl) (by kernel_rfl) (by kernel_rfl) (fun _ _ _ h => h) (by rfl) ?hym2 s2 ?restm2
        case hym2 => (intro o ho W hW; simp only [List.getElem?_toArray, List.getElem?_cons_succ, List.getElem?_cons_zero, Option.some.injEq] at ho; subst ho; have f_ := Shp.rd_on f1 hW; go_simp; try rfl)
        try simp only [Act.put, List.setIfInBounds_toArray, List.set_cons_zero, List.set_cons_succ]
        refine takeS 4 (some 57) ?vm4 (by kernel_rfl) (by kernel_rfl) (by kernel_rfl) (by kernel_rfl) (fun _ _ _ h => h) (by rfl) ?hym4 s2 ?restm4
        case hym4 => (intro o ho W hW; simp only [List.getElem?_toArray, List.getElem?_cons_succ, List.getElem?_cons_zero, Option.some.injEq] at ho; subst ho; go_simp; try rfl)
        try simp only [Act.put, List.setIfInBounds_toArray, List.set_cons_zero, List.set_cons_succ]
        refine takeS 5 (some 58) ?vm5 (by kernel_rfl) (by kernel_rfl) (by kernel_rfl) (by kernel_rfl) (fun _ _ _ h => h) (by rfl) ?hym5 s2 ?restm5
        case hym5 => (intro o ho W hW; simp only [List.getElem?_toArray, List.getElem?_cons_succ, List.getElem?_cons_zero, Option.some.injEq] at ho; subst ho; have f_ := cell_kept_ hW f2; go_simp; try rfl)
        try simp only [Act.put, List.setIfInBounds_toArray, List.set_cons_zero, List.set_cons_succ]
        refine nextS 3 (by kernel_rfl) (by rfl) (fun o ho K hK => ?_)
        simp only [List.getElem?_toArray, List.getElem?_cons_succ, List.getElem?_cons_zero, Option.some.injEq] at ho; subst ho
        go_simp
        (go_at_call 8; (with_reducible refine (CF.out k _).mono ?_); rintro e w3 ⟨rfl, b3⟩)
        have s3 := below_up s2 s2.size b3
        refine hK.out _ _ s3 (fun _ => ?_)
        clear hK K
        try simp only [Act.put, List.setIfInBounds_toArray, List.set_cons_zero, List.set_cons_succ]
        refine nextS 6 (by kernel_rfl) (by rfl) (fun o ho K hK => ?_)
        simp only [List.getElem?_toArray, List.getElem?_cons_succ, List.getElem?_cons_zero, Option.some.injEq] at ho; subst ho
        go_simp
        (go_at_call 10; (with_reducible refine (CD.out _ s3).mono ?_); rintro e w4 ⟨A3, c3, rfl, hc3, hd3, b4⟩)
        have s4 := below_up s3 s3.size b4
        refine hK.out _ _ s4 (fun _ => ?_)
        clear hK K
        try simp only [Act.put, List.setIfInBounds_toArray, List.set_cons_zero, List.set_cons_succ]
        refine takeS 7 (some 52) ?vm7 (by kernel_rfl) (by kernel_rfl) (by kernel_rfl) (by kernel_rfl) (fun _ _ _ h => h) (by rfl) ?hym7 s4 ?restm7
        case hym7 => (intro o ho W hW; simp only [List.getElem?_toArray, List.getElem?_cons_succ, List.getElem?_cons_zero, Option.some.injEq] at ho; subst ho; go_simp; try rfl)
        try simp only [Act.put, List.setIfInBounds_toArray, List.set_cons_zero, List.set_cons_succ]
        refine takeS 8 (some 60) ?vm8 (by kernel_rfl) (by kernel_rfl) (by kernel_rfl) (by kernel_rfl) (fun _ _ _ h => h) (by rfl) ?hym8 s4 ?restm8
        case hym8 => (intro o ho W hW; simp only [List.getElem?_toArray, List.getElem?_cons_succ, List.getElem?_cons_zero, Option.some.injEq] at ho; subst ho; go_simp; try rfl)
        try simp only [Act.put, List.setIfInBounds_toArray, List.set_cons_zero, List.set_cons_succ]
        refine takeS 9 (some 61) ?vm9 (by kernel_rfl) (by kernel_rfl) (by kernel_rfl) (by kernel_rfl) (fun _ _ _ h => h) (by rfl) ?hym9 s4 ?restm9
        case hym9 => (intro o ho W hW; simp only [List.getElem?_toArray, List.getElem?_cons_succ, List.getElem?_cons_zero, Option.some.injEq] at ho; subst ho; go_simp; try rfl)
        try simp only [Act.put, List.setIfInBounds_toArray, List.set_cons_zero, List.set_cons_succ]
        refine takeS 10 (some 13) ?vm10 (by kernel_rfl) (by kernel_rfl) (by kernel_rfl) (by kernel_rfl) (fun _ _ _ h => h) (by rfl) ?hym10 s4 ?restm10
        case hym10 => (intro o ho W hW; simp only [List.getElem?_toArray, List.getElem?_cons_succ, List.getElem?_cons_zero, Option.some.injEq] at ho; subst ho; go_simp; try rfl)
        try simp only [Act.put, List.setIfInBounds_toArray, List.set_cons_zero, List.set_cons_succ]
        refine takeS 11 (some 14) ?vm11 (by kernel_rfl) (by kernel_rfl) (by kernel_rfl) (by kernel_rfl) (fun _ _ _ h => h) (by rfl) ?hym11 s4 ?restm11
        case hym11 => (intro o ho W hW; simp only [List.getElem?_toArray, List.getElem?_cons_succ, List.getElem?_cons_zero, Option.some.injEq] at ho; subst ho; go_simp; try rfl)
        try simp only [Act.put, List.setIfInBounds_toArray, List.set_cons_zero, List.set_cons_succ]
        refine wpAnyH_done (by kernel_rfl) ?_ _
        refine NoPanic.normal ?_
        have B4 := Lib.hid s4
        have CT4 := Lib.hid (CT.out w4 A3 c3 s4 hd3 hc3)
        have g1 := Shp.rd_on f1 s4
        have g2 := cell_kept_ s4 f2
        clear s2 s3 s4 b3 b4 hd3 f0 f1 f2
        go_wp2_with (first
          | (go_at_call 11; (with_reducible refine CT4.out.mono ?_); rintro e w5 ⟨rfl, o5, hp5, b5, hl5⟩; have HP5 := Lib.hid hp5; have HB5 := Lib.hid ((below_up HB1.out (hs.out _ HB1.out) B4.out).trans b5); clear hp5 b5)
          | fail)
        go_roundw
        case rel => exact ⟨j + 1, o5, A3, c3, by omega, by omega, by rw [hl5]; exact Nat.le_trans (Cr.put_len HUP.out) (by omega), by rw [hl5], by go_num, HP5, HB5⟩
        case measure => simp [intOf]; omega
    · have TWO : ¬ ((j : Int) < (n : Int)) ∨ ((j : Int) < (n : Int) ∧ ¬ ((j : Int) < (m : Int))) := by omega
      clear hgo
      rcases TWO with i1 | ⟨i1, i2⟩
      · go_wp2
        exact bodyPost_ret (results_tmp3 rfl _ _ _) rfl ⟨base, o, A1, c1, rfl, by rw [HBS.out]; exact HP.out, by rw [HBS.out]; exact HB.out, by omega⟩
      · go_wp2
        exact bodyPost_ret (results_tmp3 rfl _ _ _) rfl ⟨base, o, A1, c1, rfl, by rw [HBS.out]; exact HP.out, by rw [HBS.out]; exact HB.out, by omega⟩
end Go.Proofs.Ytkhjnfplcaffnaa
