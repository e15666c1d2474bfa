/-
  A tree and the document's list behind some calls.
  First and Next of any tree; keys of a prefix by places.
  Keys of a prefix, the next key, the first key: the law.
-/
import Derived.Test.YtkhjnfplcaffnaaDb
import Derived.Test.YtkhjnfplcaffnaaCde
import Derived.Test.YtkhjnfplcaffnaaCad
import Derived.Test.YtkhjnfplcaffnaaCnx
import Derived.Test.YtkhjnfplcaffnaaCke
import Derived.Test.YtkhjnfplcaffnaaCkm
import Derived.Test.YtkhjnfplcaffnaaCkn
import Derived.Test.YtkhjnfplcaffnaaKrs
set_option linter.unusedVariables false
set_option linter.unusedSimpArgs false
set_option maxRecDepth 100000
namespace Go.Proofs.Ytkhjnfplcaffnaa
open Go.RowKit
attribute [local go_sem ↓] Go.wp_at_zero Go.wp_at_succ ld_k lv_k st_k eq_k ne_k bd_k ld_b lv_b st_b eq_b ne_b bd_25 ld_r lv_r st_rk eq_rk ne_rk bd_r ld_p lv_p st_px bd_p Nm.ld_a Nm.ld_n Nm.st_a Nm.st_n Nm.eq_a Nm.eq_n Nm.ne_a Nm.ne_n Nm.lv_a Nm.lv_n ld_a ld_n st_a st_n eq_a eq_n ne_a ne_n lv_a lv_n ld_l lv_l st_l bd_l bd_n bs_l bs_k ld_e lv_e bd_e bs_e ld_ac lv_ac st_ac
attribute [local go_sem] run_ldk run_lvk run_stk run_eqk run_nek run_bdk_z run_ldb run_lvb run_stb run_eqb run_neb run_ldr run_lvr run_strk run_eqrk run_nerk run_bdr_z run_ldp run_lvp run_stpx Nm.run_ld_a Nm.run_ld_n Nm.run_st_n Nm.run_eq_a Nm.run_eq_n Nm.run_ne_a Nm.run_ne_n Nm.run_lv_a Nm.run_lv_n Nm.rd_new Nm.rd_old Nm.rd_drew Nm.rd_drewN run_ld_a run_ld_n run_sw_a run_sw_n run_eq_a run_eq_n run_ne_a run_ne_n run_lv_a run_lv_n st_z ne_z eq_z rd_new rd_old rd_drew rd_drewN Shp.rd_new Shp.rd_old Shp.rd_drew Shp.rd_drewN Shp.rd_set Shp.tn_new Shp.tn_old Shp.tn_drew Shp.tn_drewN tn_new tn_old tn_drew tn_drewN rd_set setRow_alloc run_stn3 run_stt15 run_lvl run_ldl run_stl run_bdl run_bdn run_bdn0 run_bsl run_bsk run_lde run_lve run_bde run_bse run_bse0 run_lda run_lva run_sta Shp.rd_extk cell_ext

/-- A tree and a list that hold the same. -/
structure Pls (base g : Nat) (W : World) (o : Option Tk) (A : Option Addr) (c : Nat) : Prop where
  tc : TC W g o
  gb : base ≤ g
  ob : ∀ q ∈ blo o, base ≤ q
  de : DE W A (Cr.Tr.lso o).length (Cr.Tr.lso o)
  cap : (Cr.Tr.lso o).length ≤ c
theorem Pls.on {base g c : Nat} {W V : World} {o : Option Tk} {A : Option Addr} (h : Pls base g W o A c) (hb : Below W.heap.size W V) : Pls base g V o A c := ⟨h.tc.on hb, h.gb, h.ob, h.de.on hb, h.cap⟩
theorem Pls.up {base g c : Nat} {W : World} {o : Option Tk} {A : Option Addr} (h : Pls base g W o A c) : Cr.Up (Cr.Tr.lso o) := up_of h.tc.tr
theorem tree_ty {W : World} {g : Nat} {o : Option Tk} (h : TC W g o) : ∀ q, q ∈ g :: blo o → ∀ cs, W.heap[q]? ≠ some (Obj.cells cs 59 (0, 0)) := by
  intro q hq cs hc
  rcases List.mem_cons.1 hq with rfl | hq
  · have := hc.symm.trans h.blk.out
    injection this with this
    injection this with _ h3
    exact absurd h3 (by decide)
  · cases o with
    | none => cases hq
    | some t =>
      obtain ⟨ds, hB⟩ := (h.tr.nd t rfl).lt q hq
      have := hc.symm.trans hB.out
      injection this with this
      injection this with _ h3
      exact absurd h3 (by decide)
theorem DE.ov {W V : World} {g n : Nat} {o : Option Tk} {A : Option Addr} {l : List Lf} (h : DE W A n l) (hT : TC W g o) (hO : Ov W.heap.size (g :: blo o) W V) : DE V A n l :=
  h.kept (S := fun q => q ∈ g :: blo o) hO.size (fun i hi hS => hO.block i hi hS) (tree_ty hT)
theorem ov_below {W V : World} {base g : Nat} {o : Option Tk} (hO : Ov W.heap.size (g :: blo o) W V) (hs : base ≤ W.heap.size) (hg : base ≤ g) (ho : ∀ q ∈ blo o, base ≤ q) : Below base W V :=
  ⟨hO.os, hO.tape, hO.output, hO.size, fun k hk => hO.block k (by omega) (fun hm => by
    rcases List.mem_cons.1 hm with rfl | hm
    · omega
    · have := ho k hm; omega)⟩
theorem Pls.del {base g c c' : Nat} {W V : World} {o o' : Option Tk} {A A' : Option Addr} {l : List Lf} (h : Pls base g W o A c) (hs : base ≤ W.heap.size) (hd : DE W A' l.length l) (hc : l.length ≤ c') (hD : DelC W g o V o' l) : Pls base g V o' A' c' ∧ Below base W V :=
  ⟨⟨hD.tc, h.gb, fun q hq => h.ob q (hD.old q hq), by rw [hD.ls]; exact hd.ov h.tc hD.ov, by rw [hD.ls]; exact hc⟩, ov_below hD.ov hs h.gb h.ob⟩
theorem Pls.put {base g c c' : Nat} {W V : World} {o o' : Option Tk} {A A' : Option Addr} {k : D.Ky} {v : Int} (h : Pls base g W o A c) (hs : base ≤ W.heap.size) (hd : DE W A' (Cr.put k v (Cr.Tr.lso o)).length (Cr.put k v (Cr.Tr.lso o))) (hc : (Cr.put k v (Cr.Tr.lso o)).length ≤ c') (hD : PutC W g o k v V o') : Pls base g V o' A' c' ∧ Below base W V :=
  ⟨⟨hD.tc, h.gb, fun q hq => (hD.old q hq).elim (h.ob q) (fun h1 => Nat.le_trans hs h1), by rw [hD.ls]; exact hd.ov h.tc hD.ov, by rw [hD.ls]; exact hc⟩, ov_below hD.ov hs h.gb h.ob⟩
theorem dls_one (l : List Lf) (k : D.Ky) : dls l [k] = (Cr.del k l, if Cr.has k l then 1 else 0) := by simp [dls, dst]
theorem dls_two (l : List Lf) (k : D.Ky) : dls l [k, k] = (Cr.del k l, if Cr.has k l then 1 else 0) := by
  simp only [dls, List.foldl_cons, List.foldl_nil, dst]
  rw [Cr.has_del, Cr.del_not (Cr.has_del k l)]
  simp
/-- One key out. -/
theorem pdel_one {base g c c' : Nat} {W : World} {o : Option Tk} {A A' : Option Addr} (h : Pls base g W o A c) (hs : base ≤ W.heap.size) (k : D.Ky) (hd : DE W A' (Cr.del k (Cr.Tr.lso o)).length (Cr.del k (Cr.Tr.lso o))) (hc : (Cr.del k (Cr.Tr.lso o)).length ≤ c') {n : Nat} (hn : (if Cr.has k (Cr.Tr.lso o) then 1 else 0) = n) :
    Calls Try.prog 9 #[.pointer (some ⟨g, 0, none⟩), .slice (some ⟨W.heap.size, 0, none⟩) 1 1] (W.alloc (.cells (kS.v k) 30)) fun e w' => e = .returned (.int .i64 (n : Nat)) ∧ ∃ o', Pls base g w' o' A' c' ∧ Below base W w' ∧ Cr.Tr.lso o' = Cr.del k (Cr.Tr.lso o) := by
  have b1 := below_alloc_ W (.cells (kS.v k) 30)
  have := del_one g o k W.heap.size 1 _ (h.tc.on b1) (Shp.rd_new (S := kS) W W.heap.size 30 k rfl) (fun hm => by
    rcases List.mem_cons.1 hm with hm | hm
    · have := h.tc.tr.lt; omega
    · cases o with
      | none => cases hm
      | some t => obtain ⟨cs, hB⟩ := (h.tc.tr.nd t rfl).lt _ hm; have := hB.lt; omega)
  rw [dls_one, hn] at this
  refine this.mono ?_
  rintro e w' ⟨rfl, o', hD⟩
  obtain ⟨h1, h2⟩ := (h.on b1).del (Nat.le_trans hs b1.size) (hd.on b1) hc hD
  exact ⟨rfl, o', h1, (b1.mono hs).trans h2, hD.ls⟩
theorem pput_any {base g c c' : Nat} {W : World} {o : Option Tk} {A A' : Option Addr} (h : Pls base g W o A c) (hs : base ≤ W.heap.size) (k : D.Ky) (v : Int) (hd : DE W A' (Cr.put k v (Cr.Tr.lso o)).length (Cr.put k v (Cr.Tr.lso o))) (hc : (Cr.put k v (Cr.Tr.lso o)).length ≤ c') (hl : (Cr.Tr.lso o).length < 1000) :
    Calls Try.prog 11 #[.pointer (some ⟨g, 0, none⟩), .agg (kS.v k), .int .i64 v] W fun e w' => e = .returned (.bool (!Cr.has k (Cr.Tr.lso o))) ∧ ∃ o', Pls base g w' o' A' c' ∧ Below base W w' ∧ Cr.Tr.lso o' = Cr.put k v (Cr.Tr.lso o) :=
  (put_any g o k v W h.tc hl).mono fun e w' ⟨h1, o', hP⟩ => by
    obtain ⟨h2, h3⟩ := h.put hs hd hc hP
    exact ⟨h1, o', h2, h3, hP.ls⟩
/-- What made tells. -/
def MadeC (w : World) (j : Nat) (e : Ending) (w' : World) : Prop := ∃ g o A c, e = .returned (.tuple #[.pointer (some ⟨g, 0, none⟩), .slice A (Cr.Tr.lso o).length c, .bool true]) ∧ Pls w.heap.size g w' o A c ∧ Below w.heap.size w w' ∧ (Cr.Tr.lso o).length ≤ j
set_option maxHeartbeats 8000000 in
theorem made_any {w : World} {A : Option Addr} {n c : Nat} {acts : List Kac} (hr : Shp.Row aS w A n acts) (m : Nat) (hm : m ≤ 60) :
    Calls Try.prog 16 #[.slice A n c, .int .i64 (m : Nat)] w (MadeC w m) := by
  have HL := Lib.hid hr.len
  have HR : Hid (∀ W, Below w.heap.size w W → Shp.Row aS W A n acts) := Lib.hid fun W hW => hr.on hW
  have CN := Lib.hid (fun W => new_any W)
  have CF := Lib.hid (fun (k : D.Ky) W => lawof_any k W)
  obtain ⟨base, hbs⟩ : ∃ base, w.heap.size = base := ⟨_, rfl⟩
  have HBS := Lib.hid hbs
  have hs : Hid (∀ W : World, Below base w W → base ≤ W.heap.size) := Lib.hid fun W h => by have := h.size; omega
  rw [hbs] at HR
  clear hr
  go_enter Try.func16, Try.ntmps16
  go_wp2_with (go_at_call 6; (with_reducible refine (CN.out _).mono ?_); rintro e w1 ⟨rfl, hT1, b1⟩; have HP0 : Hid (Pls base base w1 none none 0) := Lib.hid (by rw [hbs] at hT1; exact ⟨hT1, Nat.le_refl _, (fun q h => by cases h), DE.nil _ _, Nat.le_refl _⟩); have HB0 : Hid (Below base w w1) := Lib.hid (by rw [hbs] at b1; exact b1); clear hT1 b1)
  try rw [hbs]
  go_loopw [8, 9] (fun s8 s9 wx => ∃ (j : Nat) (o : Option Tk) (A1 : Option Addr) (c1 : Nat), j ≤ m ∧ j ≤ n ∧ (Cr.Tr.lso o).length ≤ j ∧ s8 = .slice A1 (Cr.Tr.lso o).length c1 ∧ s9 = .int .i64 j ∧ Hid (Pls base base wx o A1 c1) ∧ Hid (Below base w wx)) (fun _ s9 _ => n - (intOf s9).toNat)
  case atStart => exact ⟨0, none, none, 0, Nat.zero_le _, Nat.zero_le _, Nat.le_refl _, rfl, rfl, HP0, HB0⟩
  case round =>
    clear HP0 HB0
    obtain ⟨j, o, A1, c1, hjm, hjn, hlj, rfl, rfl, HP, HB⟩ := hrel
    have j0 : (0 : Int) ≤ (j : Int) := by omega
    by_cases hgo : j < n ∧ j < m
    · have j1 : (j : Int) < (n : Int) := by omega
      have j2 : (j : Int) < (m : Int) := by omega
      obtain ⟨a, ha⟩ : ∃ a, acts[j]? = some a := ⟨_, List.getElem?_eq_getElem (by have := HL.out; omega)⟩
      obtain ⟨ad, hAe, hal, hrd⟩ := (HR.out wr HB.out).rd ha
      have hAe2 := hAe
      subst hAe
      have hrd : aS.rd wr (ad.add (j * 27)) = some a := hrd
      obtain ⟨f0, f1, f2⟩ := ac_in (Shp.rd_new (S := aS) wr wr.heap.size 35 a rfl)
      have bA := below_alloc_ wr (.cells (aS.v a) 35)
      obtain ⟨ga, hga⟩ : ∃ ga, wr.heap.size = ga := ⟨_, rfl⟩
      obtain ⟨W1, hW1⟩ : ∃ W1, wr.alloc (.cells (aS.v a) 35) = W1 := ⟨_, rfl⟩
      rw [hga, hW1] at f0 f1 f2
      rw [hW1] at bA
      have HW1 := Lib.hid hW1
      have HGA := Lib.hid hga
      have HP1 := Lib.hid (HP.out.on bA)
      have HB1 := Lib.hid (below_up HB.out (hs.out _ HB.out) bA)
      obtain ⟨oo, k, v⟩ := a
      simp only at f0 f1 f2
      obtain ⟨l, hl⟩ : ∃ l, Cr.Tr.lso o = l := ⟨_, rfl⟩
      have HLL := Lib.hid hl
      clear ha hW1 bA hga hgo HP
      cases oo with
      | true =>
        have CD : Hid (∀ V, Below W1.heap.size W1 V → Calls Try.prog 7 #[.slice A1 l.length c1, .agg (rS.v (D.toR k))] V (DPd V (Cr.del k l) (Cr.has k l))) := Lib.hid (fun V hV => by
          have h := HP1.out.on hV
          have h2 := h.de; have h3 := h.cap; have h4 := h.up
          rw [HLL.out] at h2 h3 h4
          exact rdel_any h2 h3 h4 (by rw [← HLL.out]; omega) k)
        obtain ⟨b, hb⟩ : ∃ b, Cr.has k l = b := ⟨_, rfl⟩
        obtain ⟨q, hq⟩ : ∃ q : Nat, (if b then 1 else 0) = q := ⟨_, rfl⟩
        rw [hb] at CD
        have CT : Hid (∀ V A2 c2, Below W1.heap.size W1 V → DE V A2 (Cr.del k l).length (Cr.del k l) → (Cr.del k l).length ≤ c2 → Calls Try.prog 9 #[.pointer (some ⟨base, 0, none⟩), .slice (some ⟨V.heap.size, 0, none⟩) 1 1] (V.alloc (.cells (kS.v k) 30)) fun e w' => e = .returned (.int .i64 (q : Nat)) ∧ ∃ o', Pls base base w' o' A2 c2 ∧ Below base V w' ∧ Cr.Tr.lso o' = Cr.del k l) := Lib.hid (fun V A2 c2 hV hd hc => by
          have h := pdel_one (A' := A2) (c' := c2) (HP1.out.on hV) (Nat.le_trans (hs.out _ HB1.out) hV.size) k (by rw [HLL.out]; exact hd) (by rw [HLL.out]; exact hc) (n := q) (by rw [HLL.out, hb]; exact hq)
          rw [HLL.out] at h
          exact h)
        have hq2 : ((q : Int) == 1) = b := by rw [← hq]; cases b <;> rfl
        rw [hl] at hlj
        try rw [hl]
        clear hb hl
        rw [← HW1.out, ← HGA.out] at f0 f1 f2
        go_wp2_with fail
        rw [HW1.out, HGA.out] at f0 f1 f2
        try rw [HW1.out]
        try rw [HGA.out]
        go_wp2_with (first
          | (go_at_call 8; (with_reducible refine (CF.out k _).mono ?_); rintro e w2 ⟨rfl, b2⟩; have B2 := Lib.hid b2; have CD2 := Lib.hid (CD.out w2 b2); have g1 := Shp.rd_on f1 b2; clear b2)
          | (go_at_call 7; (with_reducible refine CD2.out.mono ?_); rintro e w3 ⟨A3, c3, rfl, hc3, hd3, b3⟩; have B3 := Lib.hid (B2.out.trans (b3.mono B2.out.size)); have CT3 := Lib.hid (CT.out w3 A3 c3 B3.out hd3 hc3); have h1 := Shp.rd_on g1 b3; clear b3 hd3 g1)
          | (go_at_call 9; (with_reducible refine CT3.out.mono ?_); rintro e w4 ⟨rfl, o4, hp4, b4, hl4⟩; have HP4 := Lib.hid hp4; have HB4 := Lib.hid ((below_up HB1.out (hs.out _ HB1.out) B3.out).trans b4); clear hp4 b4)
          | fail)
        go_roundw
        case rel => exact ⟨j + 1, o4, A3, c3, by omega, by omega, by rw [hl4]; exact Nat.le_trans Cr.del_len_le (by omega), by rw [hl4], by go_num, HP4, HB4⟩
        case measure => simp [intOf]; omega
      | false =>
        have CD : Hid (∀ V, Below W1.heap.size W1 V → Calls Try.prog 10 #[.slice A1 l.length c1, .agg (rS.v (D.toR k)), .int .i64 v] V (DPd V (Cr.put k v l) (!Cr.has k l))) := Lib.hid (fun V hV => by
          have h := HP1.out.on hV
          have h2 := h.de; have h3 := h.cap; have h4 := h.up
          rw [HLL.out] at h2 h3 h4
          exact rput_any h2 h3 h4 (by rw [← HLL.out]; omega) k v)
        have HUP := Lib.hid (show Cr.Up l from by have := HP1.out.up; rwa [HLL.out] at this)
        obtain ⟨b, hb⟩ : ∃ b, (!Cr.has k l) = b := ⟨_, rfl⟩
        rw [hb] at CD
        have CT : Hid (∀ V A2 c2, Below W1.heap.size W1 V → DE V A2 (Cr.put k v l).length (Cr.put k v l) → (Cr.put k v l).length ≤ c2 → Calls Try.prog 11 #[.pointer (some ⟨base, 0, none⟩), .agg (kS.v k), .int .i64 v] V fun e w' => e = .returned (.bool b) ∧ ∃ o', Pls base base w' o' A2 c2 ∧ Below base V w' ∧ Cr.Tr.lso o' = Cr.put k v l) := Lib.hid (fun V A2 c2 hV hd hc => by
          have h := pput_any (A' := A2) (c' := c2) (HP1.out.on hV) (Nat.le_trans (hs.out _ HB1.out) hV.size) k v (by rw [HLL.out]; exact hd) (by rw [HLL.out]; exact hc) (by omega)
          rw [HLL.out, hb] at h
          exact h)
        rw [hl] at hlj
        try rw [hl]
        clear hb hl
        rw [← HW1.out, ← HGA.out] at f0 f1 f2
        go_wp2_with fail
        rw [HW1.out, HGA.out] at f0 f1 f2
        try rw [HW1.out]
        try rw [HGA.out]
        obtain ⟨w2, hw2⟩ : ∃ w2, W1.drew = w2 := ⟨_, rfl⟩
        have s2 : Below W1.heap.size W1 w2 := by rw [← hw2]; exact (Below.refl _ _).drew
        refine wp_region_noPanic ?_
        refine wp_region_held_drew (S := fun W => Below W1.heap.size W1 W) (by kernel_rfl) (by rw [hw2]; exact s2) (fun sd => ?_)
        rw [hw2]
        clear hw2 sd
        refine takeS 0 (some 53) ?vm0 (by kernel_rfl) (by kernel_rfl) (by kernel_rfl) (by kernel_rfl) (fun _ _ _ h => h) (by rfl) ?hym0 s2 ?restm0
        case hym0 => (intro o ho W hW; simp only [List.getElem?_toArray, List.getElem?_cons_succ, List.getElem?_cons_zero, Option.some.injEq] at ho; subst ho; go_simp; try rfl)
        try simp only [Act.put, List.setIfInBounds_toArray, List.set_cons_zero, List.set_cons_succ]
        refine takeS 1 (some 54) ?vm1 (by kernel_rfl) (by kernel_rfl) (by kernel_rfl) (by kernel_rfl) (fun _ _ _ h => h) (by rfl) ?hym1 s2 ?restm1
        case hym1 => (intro o ho W hW; simp only [List.getElem?_toArray, List.getElem?_cons_succ, List.getElem?_cons_zero, Option.some.injEq] at ho; subst ho; go_simp; try rfl)
        try simp only [Act.put, List.setIfInBounds_toArray, List.set_cons_zero, List.set_cons_succ]
        refine takeS 2 (some 55) ?vm2 (by kernel_rfl) (by kernel_rfl) (by kernel_rfl) (by kernel_rfl) (fun _ _ _ h => h) (by rfl) ?hym2 s2 ?restm2
        case hym2 => (intro o ho W hW; simp only [List.getElem?_toArray, List.getElem?_cons_succ, List.getElem?_cons_zero, Option.some.injEq] at ho; subst ho; have f_ := Shp.rd_on f1 hW; go_simp; try rfl)
        try simp only [Act.put, List.setIfInBounds_toArray, List.set_cons_zero, List.set_cons_succ]
        refine takeS 4 (some 57) ?vm4 (by kernel_rfl) (by kernel_rfl) (by kernel_rfl) (by kernel_rfl) (fun _ _ _ h => h) (by rfl) ?hym4 s2 ?restm4
        case hym4 => (intro o ho W hW; simp only [List.getElem?_toArray, List.getElem?_cons_succ, List.getElem?_cons_zero, Option.some.injEq] at ho; subst ho; go_simp; try rfl)
        try simp only [Act.put, List.setIfInBounds_toArray, List.set_cons_zero, List.set_cons_succ]
        refine takeS 5 (some 58) ?vm5 (by kernel_rfl) (by kernel_rfl) (by kernel_rfl) (by kernel_rfl) (fun _ _ _ h => h) (by rfl) ?hym5 s2 ?restm5
        case hym5 => (intro o ho W hW; simp only [List.getElem?_toArray, List.getElem?_cons_succ, List.getElem?_cons_zero, Option.some.injEq] at ho; subst ho; have f_ := cell_kept_ hW f2; go_simp; try rfl)
        try simp only [Act.put, List.setIfInBounds_toArray, List.set_cons_zero, List.set_cons_succ]
        refine nextS 3 (by kernel_rfl) (by rfl) (fun o ho K hK => ?_)
        simp only [List.getElem?_toArray, List.getElem?_cons_succ, List.getElem?_cons_zero, Option.some.injEq] at ho; subst ho
        go_simp
        (go_at_call 8; (with_reducible refine (CF.out k _).mono ?_); rintro e w3 ⟨rfl, b3⟩)
        have s3 := below_up s2 s2.size b3
        refine hK.out _ _ s3 (fun _ => ?_)
        clear hK K
        try simp only [Act.put, List.setIfInBounds_toArray, List.set_cons_zero, List.set_cons_succ]
        refine nextS 6 (by kernel_rfl) (by rfl) (fun o ho K hK => ?_)
        simp only [List.getElem?_toArray, List.getElem?_cons_succ, List.getElem?_cons_zero, Option.some.injEq] at ho; subst ho
        go_simp
        (go_at_call 10; (with_reducible refine (CD.out _ s3).mono ?_); rintro e w4 ⟨A3, c3, rfl, hc3, hd3, b4⟩)
        have s4 := below_up s3 s3.size b4
        refine hK.out _ _ s4 (fun _ => ?_)
        clear hK K
        try simp only [Act.put, List.setIfInBounds_toArray, List.set_cons_zero, List.set_cons_succ]
        refine takeS 7 (some 52) ?vm7 (by kernel_rfl) (by kernel_rfl) (by kernel_rfl) (by kernel_rfl) (fun _ _ _ h => h) (by rfl) ?hym7 s4 ?restm7
        case hym7 => (intro o ho W hW; simp only [List.getElem?_toArray, List.getElem?_cons_succ, List.getElem?_cons_zero, Option.some.injEq] at ho; subst ho; go_simp; try rfl)
        try simp only [Act.put, List.setIfInBounds_toArray, List.set_cons_zero, List.set_cons_succ]
        refine takeS 8 (some 60) ?vm8 (by kernel_rfl) (by kernel_rfl) (by kernel_rfl) (by kernel_rfl) (fun _ _ _ h => h) (by rfl) ?hym8 s4 ?restm8
        case hym8 => (intro o ho W hW; simp only [List.getElem?_toArray, List.getElem?_cons_succ, List.getElem?_cons_zero, Option.some.injEq] at ho; subst ho; go_simp; try rfl)
        try simp only [Act.put, List.setIfInBounds_toArray, List.set_cons_zero, List.set_cons_succ]
        refine takeS 9 (some 61) ?vm9 (by kernel_rfl) (by kernel_rfl) (by kernel_rfl) (by kernel_rfl) (fun _ _ _ h => h) (by rfl) ?hym9 s4 ?restm9
        case hym9 => (intro o ho W hW; simp only [List.getElem?_toArray, List.getElem?_cons_succ, List.getElem?_cons_zero, Option.some.injEq] at ho; subst ho; go_simp; try rfl)
        try simp only [Act.put, List.setIfInBounds_toArray, List.set_cons_zero, List.set_cons_succ]
        refine takeS 10 (some 13) ?vm10 (by kernel_rfl) (by kernel_rfl) (by kernel_rfl) (by kernel_rfl) (fun _ _ _ h => h) (by rfl) ?hym10 s4 ?restm10
        case hym10 => (intro o ho W hW; simp only [List.getElem?_toArray, List.getElem?_cons_succ, List.getElem?_cons_zero, Option.some.injEq] at ho; subst ho; go_simp; try rfl)
        try simp only [Act.put, List.setIfInBounds_toArray, List.set_cons_zero, List.set_cons_succ]
        refine takeS 11 (some 14) ?vm11 (by kernel_rfl) (by kernel_rfl) (by kernel_rfl) (by kernel_rfl) (fun _ _ _ h => h) (by rfl) ?hym11 s4 ?restm11
        case hym11 => (intro o ho W hW; simp only [List.getElem?_toArray, List.getElem?_cons_succ, List.getElem?_cons_zero, Option.some.injEq] at ho; subst ho; go_simp; try rfl)
        try simp only [Act.put, List.setIfInBounds_toArray, List.set_cons_zero, List.set_cons_succ]
        refine wpAnyH_done (by kernel_rfl) ?_ _
        refine NoPanic.normal ?_
        have B4 := Lib.hid s4
        have CT4 := Lib.hid (CT.out w4 A3 c3 s4 hd3 hc3)
        have g1 := Shp.rd_on f1 s4
        have g2 := cell_kept_ s4 f2
        clear s2 s3 s4 b3 b4 hd3 f0 f1 f2
        go_wp2_with (first
          | (go_at_call 11; (with_reducible refine CT4.out.mono ?_); rintro e w5 ⟨rfl, o5, hp5, b5, hl5⟩; have HP5 := Lib.hid hp5; have HB5 := Lib.hid ((below_up HB1.out (hs.out _ HB1.out) B4.out).trans b5); clear hp5 b5)
          | fail)
        go_roundw
        case rel => exact ⟨j + 1, o5, A3, c3, by omega, by omega, by rw [hl5]; exact Nat.le_trans (Cr.put_len HUP.out) (by omega), by rw [hl5], by go_num, HP5, HB5⟩
        case measure => simp [intOf]; omega
    · have TWO : ¬ ((j : Int) < (n : Int)) ∨ ((j : Int) < (n : Int) ∧ ¬ ((j : Int) < (m : Int))) := by omega
      clear hgo
      rcases TWO with i1 | ⟨i1, i2⟩
      · go_wp2
        exact bodyPost_ret (results_tmp3 rfl _ _ _) rfl ⟨base, o, A1, c1, rfl, by rw [HBS.out]; exact HP.out, by rw [HBS.out]; exact HB.out, by omega⟩
      · go_wp2
        exact bodyPost_ret (results_tmp3 rfl _ _ _) rfl ⟨base, o, A1, c1, rfl, by rw [HBS.out]; exact HP.out, by rw [HBS.out]; exact HB.out, by omega⟩
end Go.Proofs.Ytkhjnfplcaffnaa
set_option linter.unusedVariables false
set_option linter.unusedSimpArgs false
set_option maxRecDepth 100000
namespace Go.Proofs.Ytkhjnfplcaffnaa
open Go.RowKit
attribute [local go_sem ↓] Go.wp_at_zero Go.wp_at_succ ld_k lv_k st_k eq_k ne_k bd_k ld_b lv_b st_b eq_b ne_b bd_25 ld_r lv_r st_rk eq_rk ne_rk bd_r ld_p lv_p st_px bd_p Nm.ld_a Nm.ld_n Nm.st_a Nm.st_n Nm.eq_a Nm.eq_n Nm.ne_a Nm.ne_n Nm.lv_a Nm.lv_n ld_a ld_n st_a st_n eq_a eq_n ne_a ne_n lv_a lv_n ld_l lv_l st_l bd_l bd_n bs_l bs_k ld_e lv_e bd_e bs_e ld_ac lv_ac st_ac
attribute [local go_sem] run_ldk run_lvk run_stk run_eqk run_nek run_bdk_z run_ldb run_lvb run_stb run_eqb run_neb run_ldr run_lvr run_strk run_eqrk run_nerk run_bdr_z run_ldp run_lvp run_stpx Nm.run_ld_a Nm.run_ld_n Nm.run_st_n Nm.run_eq_a Nm.run_eq_n Nm.run_ne_a Nm.run_ne_n Nm.run_lv_a Nm.run_lv_n Nm.rd_new Nm.rd_old Nm.rd_drew Nm.rd_drewN run_ld_a run_ld_n run_sw_a run_sw_n run_eq_a run_eq_n run_ne_a run_ne_n run_lv_a run_lv_n st_z ne_z eq_z rd_new rd_old rd_drew rd_drewN Shp.rd_new Shp.rd_old Shp.rd_drew Shp.rd_drewN Shp.rd_set Shp.tn_new Shp.tn_old Shp.tn_drew Shp.tn_drewN tn_new tn_old tn_drew tn_drewN rd_set setRow_alloc run_stn3 run_stt15 run_lvl run_ldl run_stl run_bdl run_bdn run_bdn0 run_bsl run_bsk run_lde run_lve run_bde run_bse run_bse0 run_lda run_lva run_sta Shp.rd_extk cell_ext

set_option maxHeartbeats 2000000 in
theorem tfirst_any (g : Nat) (o : Option Tk) (w : World) (hT : TR w g o) : Calls Try.prog 21 #[.pointer (some ⟨g, 0, none⟩)] w fun e w' => e = .returned (.tuple #[.agg (kS.v (fk o)), .bool o.isSome]) ∧ Below w.heap.size w w' := by
  obtain ⟨w0, hw0⟩ : ∃ w0, w.alloc (.cells z25 30) = w0 := ⟨_, rfl⟩
  have b0 : Below w.heap.size w w0 := by rw [← hw0]; exact below_alloc_ _ _
  have k0 : Shp.tn 25 w0 w.heap.size = true := by rw [← hw0]; exact Shp.tn_new _ _ _ _ _ rfl rfl
  have hT0 := hT.on b0
  unfold z25 at hw0
  have CT := Lib.hid (top_any g w0)
  have CF := Lib.hid (first_any o w0 (fun t e => ⟨hT0.nd t e, hT0.wf t e⟩))
  have hc := hT0.root
  clear hT hT0
  go_enter Try.func21, Try.ntmps21
  go_wp2_with fail
  try rw [hw0]
  clear hw0
  go_wp2_with (first
    | (go_at_call 44; (with_reducible refine CT.out.mono ?_); rintro e w1 ⟨rfl, rfl⟩)
    | (go_at_call 37; (with_reducible refine CF.out.mono ?_); rintro e w2 ⟨rfl, b2⟩; have k2 := Shp.tn_on k0 b2; have z2 := below_up b0 b0.size b2))
  have hset := Shp.rd_set (S := kS) w2 w.heap.size (fk o) k2
  refine bodyPost_ret (v := .tuple #[.agg (kS.v (fk o)), .bool o.isSome]) (by rw [results_ct rfl]; simp [asAddr, Result.andThen, lvk_of hset] <;> rfl) rfl ⟨rfl, below_setRow z2 (Nat.le_refl _) _⟩
theorem nextk_any (g : Nat) (o : Option Tk) (k : D.Ky) (w : World) (hT : TR w g o) : Calls Try.prog 19 #[.pointer (some ⟨g, 0, none⟩), .agg (kS.v k)] w fun e w' => e = .returned (.tuple #[.agg (kS.v (nx k (Cr.Tr.lso o))), .bool (Cr.nxt k (Cr.Tr.lso o)).isSome]) ∧ Below w.heap.size w w' := by
  cases o with
  | none => exact next_none g k w hT
  | some t => exact next_some g t k w hT
theorem fk_hd2 {o : Option Tk} : (o = none ∧ Cr.Tr.lso o = [] ∧ fk o = D.zK) ∨ ∃ e, (Cr.Tr.lso o)[0]? = some e ∧ fk o = e.1 ∧ o.isSome = true := by
  cases o with
  | none => exact .inl ⟨rfl, rfl, rfl⟩
  | some t => exact .inr ⟨t.hd, by rw [← List.head?_eq_getElem?]; exact t.hd_ls, rfl, rfl⟩
/-- How many of the first ones are of a prefix. -/
def cnp (p : Lf → Bool) (l : List Lf) (i : Nat) : Nat := ((l.take i).filter p).length
theorem cnp_0 (p : Lf → Bool) (l : List Lf) : cnp p l 0 = 0 := by simp [cnp]
theorem cnp_next {p : Lf → Bool} {l : List Lf} {i : Nat} {e : Lf} (h : l[i]? = some e) : cnp p l (i + 1) = if p e then cnp p l i + 1 else cnp p l i := by
  unfold cnp
  rw [List.take_add_one, h, List.filter_append, List.length_append]
  by_cases hp : p e = true <;> simp [hp]
theorem cnp_all (p : Lf → Bool) (l : List Lf) {i : Nat} (h : l.length ≤ i) : cnp p l i = (l.filter p).length := by unfold cnp; rw [List.take_of_length_le h]
theorem cnp_at {p : Lf → Bool} {l : List Lf} {i : Nat} {e : Lf} (h : l[i]? = some e) (hp : p e = true) : ((l.filter p).map (·.1))[cnp p l i]? = some e.1 := by
  obtain ⟨hi, rfl⟩ := List.getElem?_eq_some_iff.1 h
  have e1 : l = l.take i ++ l[i] :: l.drop (i + 1) := by rw [← List.drop_eq_getElem_cons hi, List.take_append_drop]
  have e2 : l.filter p = (l.take i).filter p ++ l[i] :: (l.drop (i + 1)).filter p := by
    conv => lhs; rw [e1]
    rw [List.filter_append, List.filter_cons, if_pos hp]
  rw [e2, List.getElem?_map, List.getElem?_append_right (by unfold cnp; omega)]
  unfold cnp
  simp
end Go.Proofs.Ytkhjnfplcaffnaa
set_option linter.unusedVariables false
set_option linter.unusedSimpArgs false
set_option maxRecDepth 100000
namespace Go.Proofs.Ytkhjnfplcaffnaa
open Go.RowKit
attribute [local go_sem ↓] Go.wp_at_zero Go.wp_at_succ ld_k lv_k st_k eq_k ne_k bd_k ld_b lv_b st_b eq_b ne_b bd_25 ld_r lv_r st_rk eq_rk ne_rk bd_r ld_p lv_p st_px bd_p Nm.ld_a Nm.ld_n Nm.st_a Nm.st_n Nm.eq_a Nm.eq_n Nm.ne_a Nm.ne_n Nm.lv_a Nm.lv_n ld_a ld_n st_a st_n eq_a eq_n ne_a ne_n lv_a lv_n ld_l lv_l st_l bd_l bd_n bs_l bs_k ld_e lv_e bd_e bs_e ld_ac lv_ac st_ac
attribute [local go_sem] run_ldk run_lvk run_stk run_eqk run_nek run_bdk_z run_ldb run_lvb run_stb run_eqb run_neb run_ldr run_lvr run_strk run_eqrk run_nerk run_bdr_z run_ldp run_lvp run_stpx Nm.run_ld_a Nm.run_ld_n Nm.run_st_n Nm.run_eq_a Nm.run_eq_n Nm.run_ne_a Nm.run_ne_n Nm.run_lv_a Nm.run_lv_n Nm.rd_new Nm.rd_old Nm.rd_drew Nm.rd_drewN run_ld_a run_ld_n run_sw_a run_sw_n run_eq_a run_eq_n run_ne_a run_ne_n run_lv_a run_lv_n st_z ne_z eq_z rd_new rd_old rd_drew rd_drewN Shp.rd_new Shp.rd_old Shp.rd_drew Shp.rd_drewN Shp.rd_set Shp.tn_new Shp.tn_old Shp.tn_drew Shp.tn_drewN tn_new tn_old tn_drew tn_drewN rd_set setRow_alloc run_stn3 run_stt15 run_lvl run_ldl run_stl run_bdl run_bdn run_bdn0 run_bsl run_bsk run_lde run_lve run_bde run_bse run_bse0 run_lda run_lva run_sta Shp.rd_extk cell_ext

set_option maxHeartbeats 16000000 in
theorem law_keys {w : World} {A : Option Addr} {n c : Nat} {acts : List Kac} (hr : Shp.Row aS w A n acts) (q : D.Px) (k : D.Ky) :
    Calls Try.prog 4 #[.slice A n c, .agg (pS.v q), .agg (kS.v k)] w fun e w' => e = .returned (.bool true) ∧ Below w.heap.size w w' := by
  obtain ⟨w0, hw0⟩ : ∃ w0, (w.alloc (.cells (pS.v q) 52)).alloc (.cells (kS.v k) 30) = w0 := ⟨_, rfl⟩
  have p0 : pS.rd w0 ⟨w.heap.size, 0, none⟩ = some q := by rw [← hw0]; exact Shp.rd_on (Shp.rd_new (S := pS) w _ _ _ rfl) (below_alloc_ _ _)
  have k0 : kS.rd w0 ⟨w.heap.size + 1, 0, none⟩ = some k := by rw [← hw0]; exact Shp.rd_new _ _ _ _ (by simp)
  have b0 : Below w.heap.size w w0 := by rw [← hw0]; exact (below_alloc_ _ _).alloc (by simp) _
  have CM : Hid (Calls Try.prog 16 #[.slice A n c, .int .i64 60] w0 (MadeC w0 60)) := Lib.hid (made_any (hr.on b0) 60 (by omega))
  have CK := Lib.hid (fun W => known_any W)
  have COF := Lib.hid (fun (x : D.Ky) W => lawof_any x W)
  have HB0 := Lib.hid b0
  obtain ⟨gp, hgp⟩ : ∃ gp, w.heap.size = gp := ⟨_, rfl⟩
  have HGP := Lib.hid hgp
  rw [hgp] at p0 k0
  have HP := Lib.hid p0
  have HK := Lib.hid k0
  have lp0 : gp + 1 < w0.heap.size := by have := Shp.rd_lt k0; exact this
  clear hr p0 k0 b0
  go_enter Try.func4, Try.ntmps4
  go_wp2_with fail
  try rw [hw0]
  go_wp2_with (first
    | (go_at_call 16; (with_reducible refine CM.out.mono ?_); rintro e w1 ⟨g, o, A1, c1, rfl, hp1, b1, hl1⟩; have HPL := Lib.hid hp1; have B1 := Lib.hid b1; have HL60 := Lib.hid hl1; have p1 := Shp.rd_on HP.out b1; have CKY := Lib.hid (keys_any g o q w1 hp1.tc.tr); clear hp1 b1)
    | (go_at_call 17; (with_reducible refine CKY.out.mono ?_); rintro e w2 ⟨A2, c2, rfl, ho2, b2⟩; have HX := Lib.hid (Shp.Own.to_row (S := kS) (base := w1.heap.size) (e := 30) (c := c2) ⟨ho2.row, ho2.base⟩); have HP2 := Lib.hid (HPL.out.on b2); have B2 := Lib.hid (B1.out.trans (b2.mono B1.out.size)); clear ho2 b2)
    | fail)
  obtain ⟨l, hl⟩ : ∃ l, Cr.Tr.lso o = l := ⟨_, rfl⟩
  have HKE : Hid (kyo q o = (l.filter (fun e => D.has q.x q.d e.1)).map (·.1)) := Lib.hid (by rw [← hl]; exact kyo_eq HP2.out.tc.tr q)
  obtain ⟨X, hX⟩ : ∃ X, kyo q o = X := ⟨_, rfl⟩
  have HLL := Lib.hid hl
  rw [hX] at HX HKE
  rw [hl] at hl1
  try rw [hl]
  try rw [hX]
  have HXL := HX.out.len
  have HDE : Hid (DE w2 A1 l.length l) := Lib.hid (by have := HP2.out.de; rwa [hl] at this)
  clear hX CM CKY HPL p1 hl
  try rw [HGP.out]
  have hl60 : l.length ≤ 60 := hl1
  go_loopw [11, 12] (fun s11 s12 wx => ∃ (i a : Nat), i ≤ l.length ∧ a ≤ i ∧ Hid (a = cnp (fun e => D.has q.x q.d e.1) l i) ∧ s11 = .int .i64 a ∧ s12 = .int .i64 i ∧ Hid (Below w2.heap.size w2 wx)) (fun _ s12 _ => l.length - (intOf s12).toNat)
  case atStart => exact ⟨0, 0, Nat.zero_le _, Nat.le_refl _, Lib.hid (cnp_0 _ _).symm, rfl, rfl, Lib.hid (Below.refl _ _)⟩
  case round =>
    obtain ⟨i, a, hil, hai, HA, rfl, rfl, HW⟩ := hrel
    have i0 : (0 : Int) ≤ (i : Int) := by omega
    have a0 : (0 : Int) ≤ (a : Int) := by omega
    by_cases hlt : i < l.length
    · have i1 : (i : Int) < (l.length : Int) := by omega
      obtain ⟨e, he⟩ : ∃ e, l[i]? = some e := ⟨_, List.getElem?_eq_getElem hlt⟩
      obtain ⟨ad, hAe, hal, hrd⟩ := (HDE.out.on HW.out).row.rd he
      subst hAe
      obtain ⟨r1, -⟩ := er hrd
      have r2 : (ad.add (i * 26)).block < wr.heap.size := Shp.rd_lt r1
      have HBW := Lib.hid (B2.out.trans (HW.out.mono B2.out.size))
      obtain ⟨t1, t2⟩ := pf0 (Shp.rd_on HP.out HBW.out)
      have l1 : gp < wr.heap.size := Shp.rd_lt t1
      have HE := Lib.hid he
      have CO1 := Lib.hid (fun (p : On) => COF.out q.x (ext wr p))
      have CH := Lib.hid (fun (p : On) => rhas_any q.x e.1 q.d (ext wr p))
      have HN := Lib.hid (cnp_next (p := fun e => D.has q.x q.d e.1) he)
      clear hrd he
      cases hh : D.has q.x q.d e.1 with
      | false =>
        rw [hh] at CH HN
        have HN : Hid (cnp (fun e => D.has q.x q.d e.1) l (i + 1) = cnp (fun e => D.has q.x q.d e.1) l i) := HN
        clear hh
        go_wp2_with fail
        refine wp_region_ext (by kernel_rfl) (by kernel_rfl) ?_
        repeat (go_big_quiet_step (first | (go_at_call 8; with_reducible exact calls_ext (CO1.out _)) | (go_at_call 18; with_reducible exact calls_ext (CH.out _))))
        refine wpQuiet_nil ?_
        intro w5 hw5
        have b5 := ext_to hw5
        clear hw5
        go_wp2
        go_roundw
        case rel => exact ⟨i + 1, a, hlt, by omega, Lib.hid (by rw [HN.out]; exact HA.out), rfl, by go_num, Lib.hid (HW.out.trans (b5.mono HW.out.size))⟩
        case measure => simp [intOf]; omega
      | true =>
        have HXA : Hid (X[a]? = some e.1) := Lib.hid (by rw [HKE.out, HA.out]; exact cnp_at HE.out hh)
        rw [hh] at CH HN
        have HN : Hid (cnp (fun e => D.has q.x q.d e.1) l (i + 1) = cnp (fun e => D.has q.x q.d e.1) l i + 1) := HN
        clear hh
        go_wp2_with fail
        refine wp_region_ext (by kernel_rfl) (by kernel_rfl) ?_
        repeat (go_big_quiet_step (first | (go_at_call 8; with_reducible exact calls_ext (CO1.out _)) | (go_at_call 18; with_reducible exact calls_ext (CH.out _))))
        refine wpQuiet_nil ?_
        intro w5 hw5
        have b5 := ext_to hw5
        have B5 := Lib.hid (HW.out.trans (b5.mono HW.out.size))
        have r5 := Shp.rd_on r1 b5
        have r6 : (ad.add (i * 26)).block < w5.heap.size := Shp.rd_lt r5
        obtain ⟨ax, hAx, hax, hrx⟩ := (HX.out.on B5.out).rd HXA.out
        subst hAx
        have hrx : kS.rd w5 (ax.add (a * 25)) = some e.1 := hrx
        have r7 : (ax.add (a * 25)).block < w5.heap.size := Shp.rd_lt hrx
        have a1 : (a : Int) < (X.length : Int) := by have := (List.getElem?_eq_some_iff.1 HXA.out).1; omega
        have a2 : ¬ ((X.length : Int) ≤ (a : Int)) := by omega
        have a3 : decide ((X.length : Int) ≤ (a : Int)) = false := decide_eq_false a2
        have a4 : ¬ X.length ≤ a := by omega
        have a5 : decide (X.length ≤ a) = false := decide_eq_false a4
        have CO2 := Lib.hid (fun (p : On) => COF.out e.1 (ext w5 p))
        have hsm := sm_toR e.1 e.1
        rw [decide_eq_true rfl] at hsm
        clear hw5 b5 r1 r2 t1 t2 l1 CO1 CH hax
        go_wp2_with fail
        refine wp_region_ext (by kernel_rfl) (by kernel_rfl) ?_
        repeat (go_big_quiet_step ((go_at_call 8; with_reducible exact calls_ext (CO2.out _))))
        refine wpQuiet_nil ?_
        intro w6 hw6
        have b6 := ext_to hw6
        clear hw6
        go_wp2
        go_roundw
        case rel => exact ⟨i + 1, a + 1, hlt, by omega, Lib.hid ((congrArg (· + 1) HA.out).trans HN.out.symm), by go_num, by go_num, Lib.hid (B5.out.trans (b6.mono B5.out.size))⟩
        case measure => simp [intOf]; omega
    · have i1 : ¬ ((i : Int) < (l.length : Int)) := by omega
      have hx : X.length = a := by
        have := congrArg List.length HKE.out
        rw [List.length_map, ← cnp_all _ l (i := i) (by omega), ← HA.out] at this
        exact this
      have HB2 := Lib.hid (B2.out.trans (HW.out.mono B2.out.size))
      have HPw := Lib.hid (HP2.out.on HW.out)
      have HDw := Lib.hid (HDE.out.on HW.out)
      have r0 := Shp.rd_on HK.out HB2.out
      have CNX : Hid (Calls Try.prog 19 #[.pointer (some ⟨g, 0, none⟩), .agg (kS.v k)] wr fun e w' => e = .returned (.tuple #[.agg (kS.v (nx k l)), .bool (Cr.nxt k l).isSome]) ∧ Below wr.heap.size wr w') := Lib.hid (by have := nextk_any g o k wr HPw.out.tc.tr; rw [HLL.out] at this; exact this)
      have CRN := Lib.hid (fun W (hW : Below wr.heap.size wr W) => rnext_any (c := c1) (HDw.out.on hW).row (by omega) k)
      have CFI := Lib.hid (fun W (hW : Below wr.heap.size wr W) => tfirst_any g o W (HPw.out.tc.tr.on hW))
      have HFK := Lib.hid (fk_hd2 (o := o))
      obtain ⟨nk, hnk⟩ : ∃ nk, nx k l = nk := ⟨_, rfl⟩
      obtain ⟨nb, hnb⟩ : ∃ nb, (Cr.nxt k l).isSome = nb := ⟨_, rfl⟩
      rw [hnk, hnb] at CNX CRN
      rw [hx]
      have hsm := sm_toR nk nk
      rw [decide_eq_true rfl] at hsm
      have hnn : (nb != nb) = false := by cases nb <;> rfl
      clear hnk hnb HA
      rcases HFK.out with ⟨ho, hl0, hfk⟩ | ⟨e0, he0, hfk, hos⟩
      · rw [HLL.out] at hl0
        have HL00 := Lib.hid (show l.length = 0 by rw [hl0]; rfl)
        rw [ho] at CFI
        have CFI : Hid (∀ W, Below wr.heap.size wr W → Calls Try.prog 21 #[.pointer (some ⟨g, 0, none⟩)] W fun e w' => e = .returned (.tuple #[.agg (kS.v D.zK), .bool false]) ∧ Below W.heap.size W w') := CFI
        have kz : kS.sm D.zK D.zK = true := by simp [Shp.sm]
        clear hl0 hfk ho HFK
        have CON := Lib.hid (fun W => COF.out k W)
        go_wp2_with (first
          | (go_at_call 19; (with_reducible refine CNX.out.mono ?_); rintro e w3 ⟨rfl, b3⟩; have B3 := Lib.hid b3; have k3 : kS.rd (w3.alloc (.cells (kS.v nk) 30)) ⟨gp + 1, 0, none⟩ = some k := Shp.rd_on (Shp.rd_on r0 b3) (below_alloc_ _ _); clear b3)
          | fail)
        have b3a := below_alloc_ w3 (.cells (kS.v nk) 30)
        have r3 := Shp.rd_new (S := kS) w3 w3.heap.size 30 nk rfl
        obtain ⟨g3, hg3⟩ : ∃ g3, w3.heap.size = g3 := ⟨_, rfl⟩
        obtain ⟨W3, hW3⟩ : ∃ W3, w3.alloc (.cells (kS.v nk) 30) = W3 := ⟨_, rfl⟩
        have B3a := Lib.hid (below_up B3.out B3.out.size b3a)
        rw [hW3] at B3a r3
        rw [hg3] at r3
        try rw [hW3]
        try rw [hg3]
        clear hW3 hg3 b3a k3 CNX
        go_wp2_with (first
          | (go_at_call 8; (with_reducible refine (CON.out _).mono ?_); rintro e w4 ⟨rfl, b4⟩; have B4 := Lib.hid (below_up B3a.out B3a.out.size b4); have r4 := Shp.rd_on r3 b4; have CR4 := Lib.hid (CRN.out w4 B4.out); clear b4)
          | (go_at_call 20; (with_reducible refine CR4.out.mono ?_); rintro e w5 ⟨rfl, b5⟩; have B5 := Lib.hid (below_up B4.out B4.out.size b5); have r5 := Shp.rd_on r4 b5; clear b5)
          | fail)
        have b5a := below_alloc_ w5 (.cells (rS.v (D.toR nk)) 40)
        have s5 := Shp.rd_new (S := rS) w5 w5.heap.size 40 (D.toR nk) rfl
        have r5a := Shp.rd_on r5 b5a
        obtain ⟨g5, hg5⟩ : ∃ g5, w5.heap.size = g5 := ⟨_, rfl⟩
        obtain ⟨W5, hW5⟩ : ∃ W5, w5.alloc (.cells (rS.v (D.toR nk)) 40) = W5 := ⟨_, rfl⟩
        have B5a := Lib.hid (below_up B5.out B5.out.size b5a)
        rw [hW5] at B5a s5 r5a
        rw [hg5] at s5
        try rw [hW5]
        try rw [hg5]
        have CF5 := Lib.hid (CFI.out W5 B5a.out)
        clear hW5 hg5 b5a r3 r4 r5 CRN CFI CR4
        go_wp2_with (first
          | (go_at_call 21; (with_reducible refine CF5.out.mono ?_); rintro e w6 ⟨rfl, b6⟩; have B6 := Lib.hid (below_up B5a.out B5a.out.size b6); have r6 := Shp.rd_on r5a b6; have s6 := Shp.rd_on s5 b6; clear b6)
          | fail)
        have b6a := below_alloc_ w6 (.cells (kS.v D.zK) 30)
        have t6 := Shp.rd_new (S := kS) w6 w6.heap.size 30 D.zK rfl
        have r6a := Shp.rd_on r6 b6a
        have s6a := Shp.rd_on s6 b6a
        obtain ⟨g6, hg6⟩ : ∃ g6, w6.heap.size = g6 := ⟨_, rfl⟩
        obtain ⟨W6, hW6⟩ : ∃ W6, w6.alloc (.cells (kS.v D.zK) 30) = W6 := ⟨_, rfl⟩
        have B6a := Lib.hid (below_up B6.out B6.out.size b6a)
        rw [hW6] at B6a t6 r6a s6a
        rw [hg6] at t6
        try rw [hW6]
        try rw [hg6]
        clear hW6 hg6 b6a r6 s6 r5a s5 CF5
        have l6 : g6 < W6.heap.size := Shp.rd_lt t6
        have l3 : g3 < W6.heap.size := Shp.rd_lt r6a
        have l5 : g5 < W6.heap.size := Shp.rd_lt s6a
        have CO6 := Lib.hid (fun (p : On) => COF.out nk (ext W6 p))
        have hl00 := HL00.out
        go_wp2_with fail
        refine wp_region_ext (by kernel_rfl) (by kernel_rfl) ?_
        repeat (go_big_quiet_step (first | (go_at_call 8; with_reducible exact calls_ext (CO6.out _)) | fail))
        refine wpQuiet_nil ?_
        intro w7 hw7
        have b7 := ext_to hw7
        have B7 := Lib.hid (B6a.out.trans (b7.mono B6a.out.size))
        have t7 := Shp.rd_on t6 b7
        have l7 : g6 < w7.heap.size := Shp.rd_lt t7
        have HDE7 := Lib.hid (HDw.out.on B7.out)
        have CK7 := Lib.hid (fun (p : On) => CK.out (ext w7 p))
        clear hw7 b7 r6a s6a l6 l3 l5 CO6 t6
        go_wp2_with fail
        refine wp_region_ext (by kernel_rfl) (by kernel_rfl) ?_
        repeat (go_big_quiet_step (first | (go_at_call 15; with_reducible exact calls_ext (CK7.out _)) | fail))
        refine wpQuiet_nil ?_
        intro w8 hw8
        have b8 := ext_to hw8
        clear hw8
        go_wp2
        go_ret
        exact ⟨rfl, (HB0.out.trans (B2.out.mono HB0.out.size)).trans (((HW.out.trans (B7.out.mono HW.out.size)).trans (b8.mono (by have := HW.out.size; have := B7.out.size; omega))).mono (by have := HB0.out.size; have := B2.out.size; omega))⟩
      · have CFI : Hid (∀ W, Below wr.heap.size wr W → Calls Try.prog 21 #[.pointer (some ⟨g, 0, none⟩)] W fun e w' => e = .returned (.tuple #[.agg (kS.v e0.1), .bool true]) ∧ Below W.heap.size W w') := Lib.hid fun W hW => by have := CFI.out W hW; rw [hfk, hos] at this; exact this
        rw [HLL.out] at he0
        have hlp : 0 < l.length := (List.getElem?_eq_some_iff.1 he0).1
        have hlp2 : (0 : Int) < (l.length : Int) := by omega
        have HE0 := Lib.hid he0
        clear he0 hfk hos HFK
        have CON := Lib.hid (fun W => COF.out k W)
        go_wp2_with (first
          | (go_at_call 19; (with_reducible refine CNX.out.mono ?_); rintro e w3 ⟨rfl, b3⟩; have B3 := Lib.hid b3; have k3 : kS.rd (w3.alloc (.cells (kS.v nk) 30)) ⟨gp + 1, 0, none⟩ = some k := Shp.rd_on (Shp.rd_on r0 b3) (below_alloc_ _ _); clear b3)
          | fail)
        have b3a := below_alloc_ w3 (.cells (kS.v nk) 30)
        have r3 := Shp.rd_new (S := kS) w3 w3.heap.size 30 nk rfl
        obtain ⟨g3, hg3⟩ : ∃ g3, w3.heap.size = g3 := ⟨_, rfl⟩
        obtain ⟨W3, hW3⟩ : ∃ W3, w3.alloc (.cells (kS.v nk) 30) = W3 := ⟨_, rfl⟩
        have B3a := Lib.hid (below_up B3.out B3.out.size b3a)
        rw [hW3] at B3a r3
        rw [hg3] at r3
        try rw [hW3]
        try rw [hg3]
        clear hW3 hg3 b3a k3 CNX
        go_wp2_with (first
          | (go_at_call 8; (with_reducible refine (CON.out _).mono ?_); rintro e w4 ⟨rfl, b4⟩; have B4 := Lib.hid (below_up B3a.out B3a.out.size b4); have r4 := Shp.rd_on r3 b4; have CR4 := Lib.hid (CRN.out w4 B4.out); clear b4)
          | (go_at_call 20; (with_reducible refine CR4.out.mono ?_); rintro e w5 ⟨rfl, b5⟩; have B5 := Lib.hid (below_up B4.out B4.out.size b5); have r5 := Shp.rd_on r4 b5; clear b5)
          | fail)
        have b5a := below_alloc_ w5 (.cells (rS.v (D.toR nk)) 40)
        have s5 := Shp.rd_new (S := rS) w5 w5.heap.size 40 (D.toR nk) rfl
        have r5a := Shp.rd_on r5 b5a
        obtain ⟨g5, hg5⟩ : ∃ g5, w5.heap.size = g5 := ⟨_, rfl⟩
        obtain ⟨W5, hW5⟩ : ∃ W5, w5.alloc (.cells (rS.v (D.toR nk)) 40) = W5 := ⟨_, rfl⟩
        have B5a := Lib.hid (below_up B5.out B5.out.size b5a)
        rw [hW5] at B5a s5 r5a
        rw [hg5] at s5
        try rw [hW5]
        try rw [hg5]
        have CF5 := Lib.hid (CFI.out W5 B5a.out)
        clear hW5 hg5 b5a r3 r4 r5 CRN CFI CR4
        go_wp2_with (first
          | (go_at_call 21; (with_reducible refine CF5.out.mono ?_); rintro e w6 ⟨rfl, b6⟩; have B6 := Lib.hid (below_up B5a.out B5a.out.size b6); have r6 := Shp.rd_on r5a b6; have s6 := Shp.rd_on s5 b6; clear b6)
          | fail)
        have b6a := below_alloc_ w6 (.cells (kS.v e0.1) 30)
        have t6 := Shp.rd_new (S := kS) w6 w6.heap.size 30 e0.1 rfl
        have r6a := Shp.rd_on r6 b6a
        have s6a := Shp.rd_on s6 b6a
        obtain ⟨g6, hg6⟩ : ∃ g6, w6.heap.size = g6 := ⟨_, rfl⟩
        obtain ⟨W6, hW6⟩ : ∃ W6, w6.alloc (.cells (kS.v e0.1) 30) = W6 := ⟨_, rfl⟩
        have B6a := Lib.hid (below_up B6.out B6.out.size b6a)
        rw [hW6] at B6a t6 r6a s6a
        rw [hg6] at t6
        try rw [hW6]
        try rw [hg6]
        clear hW6 hg6 b6a r6 s6 r5a s5 CF5
        have l6 : g6 < W6.heap.size := Shp.rd_lt t6
        have l3 : g3 < W6.heap.size := Shp.rd_lt r6a
        have l5 : g5 < W6.heap.size := Shp.rd_lt s6a
        have CO6 := Lib.hid (fun (p : On) => COF.out nk (ext W6 p))
        go_wp2_with fail
        refine wp_region_ext (by kernel_rfl) (by kernel_rfl) ?_
        repeat (go_big_quiet_step (first | (go_at_call 8; with_reducible exact calls_ext (CO6.out _)) | fail))
        refine wpQuiet_nil ?_
        intro w7 hw7
        have b7 := ext_to hw7
        have B7 := Lib.hid (B6a.out.trans (b7.mono B6a.out.size))
        have t7 := Shp.rd_on t6 b7
        have l7 : g6 < w7.heap.size := Shp.rd_lt t7
        have HDE7 := Lib.hid (HDw.out.on B7.out)
        have CK7 := Lib.hid (fun (p : On) => CK.out (ext w7 p))
        clear hw7 b7 r6a s6a l6 l3 l5 CO6 t6
        obtain ⟨ad, hAe, hal, hrd⟩ := HDE7.out.row.rd HE0.out
        subst hAe
        obtain ⟨u1, -⟩ := er hrd
        rw [Nat.zero_mul, add_zero_] at u1
        have u2 : ad.block < w7.heap.size := Shp.rd_lt u1
        have CO7 := Lib.hid (fun (p : On) => COF.out e0.1 (ext w7 p))
        have hs0 := sm_toR e0.1 e0.1
        rw [decide_eq_true rfl] at hs0
        clear hrd hal
        go_wp2_with fail
        refine wp_region_ext (by kernel_rfl) (by kernel_rfl) ?_
        repeat (go_big_quiet_step (first | (go_at_call 15; with_reducible exact calls_ext (CK7.out _)) | (go_at_call 8; with_reducible exact calls_ext (CO7.out _)) | fail))
        refine wpQuiet_nil ?_
        intro w8 hw8
        have b8 := ext_to hw8
        clear hw8
        go_wp2
        go_ret
        exact ⟨rfl, (HB0.out.trans (B2.out.mono HB0.out.size)).trans (((HW.out.trans (B7.out.mono HW.out.size)).trans (b8.mono (by have := HW.out.size; have := B7.out.size; omega))).mono (by have := HB0.out.size; have := B2.out.size; omega))⟩
end Go.Proofs.Ytkhjnfplcaffnaa
