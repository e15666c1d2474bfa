/-
  The renderer: a row of parts.
  The renderer: what stands at a place.
  The renderer: messages at every depth.
-/
import Derived.Test.YtohhfcfnclafdaaGreatDoorG31
set_option linter.unusedVariables false
set_option linter.unusedSimpArgs false
set_option maxRecDepth 100000
namespace Go.Proofs.YtohhfcfnclafdaaGreatDoor
open Go.RowKit
attribute [local go_sem ↓] Go.wp_at_zero Go.wp_at_succ Nm.ld_a Nm.ld_n Nm.st_a Nm.st_n Nm.lv_a Nm.lv_n ld_nd lv_nd st_nd bd_nd bs_nd ld_vl lv_vl st_vl
attribute [local go_sem] Nm.run_ld_a Nm.run_ld_n Nm.run_lv_a Nm.run_lv_n Nm.rd_new Nm.rd_old Nm.rd_drew Nm.rd_drewN Nm.st_z run_lvnd run_ldnd run_stnd_new run_bsnd Shp.rd_new Shp.rd_old Shp.rd_drew Shp.rd_drewN run_lvvl run_ldvl run_stvl_new

/-- The error of what is rendered. -/
def D.erO (o : Option (List Nat)) : Int := if o.isSome then 0 else 7
/-- The contract of what is rendered behind a text: what it comes to, if values are there. -/
def RnC (x : D.Tg) (g b : Nat) (fn : FuncId) (args : Array Value) (w : World) (o : Option (List Nat)) (m : Nat) : Prop :=
  ∀ W L, Nu b w W → Rn x g b W L → L.length + m ≤ 100000 → Calls Tryz.prog fn args W fun y w' => y = .returned (.int .i64 (D.erO o)) ∧ (∀ t, o = some t → Rn x g b w' (L ++ t)) ∧ Nu b W w'
set_option maxHeartbeats 8000000 in
theorem message_row (x : D.Tg) (g b n c sg kk : Nat) (f : Nm.D.Nm → Option D.Vl) (A : Option Addr) (vs : List (D.Nd × D.Sl)) (w : World) (N : D.Nd → Option (List Nat)) (hr : RF 15 (fun i => i < b) w A n (nS.rcs (nvs vs))) (hn : n ≤ 1000) (hbl : b ≤ w.heap.size) (hsg : sg < 18446744073709551616) (hG : Rg b g kk f w)
    (h0 : ∀ (j : Nat) (y : D.Nd) (p : D.Sl), vs[j]? = some (y, p) → y.k = 0 → y.t ≠ [] ∧ (∀ c ∈ y.t, c < 256) ∧ N y = some y.t)
    (h5 : ∀ (j : Nat) (y : D.Nd) (p : D.Sl), vs[j]? = some (y, p) → y.k = 5 → N y = some (D.dg sg))
    (hle : ∀ (j : Nat) (y : D.Nd) (p : D.Sl), vs[j]? = some (y, p) → ∀ a, N y = some a → a.length ≤ 20 * (D.prN y).length)
    (hp : ∀ (j : Nat) (y : D.Nd) (p : D.Sl), vs[j]? = some (y, p) → y.k ≠ 0 → y.k ≠ 5 → (f (D.pnm y) = none → N y = none) ∧ ∀ z, f (D.pnm y) = some z → RnC x g b 112 #[vr b, .agg (nS.v (nv y p.A p.m p.c)), .agg (vS.v z), .int .u64 (sg : Nat)] w (N y) (20 * (D.prN y).length)) :
    RnC x g b 64 #[vr b, .slice A n c, .int .u64 (sg : Nat)] w (D.rnL N (vs.map (·.1))) (20 * (D.prL (vs.map (·.1))).length) := by
  intro W L hNu hB hsz
  have hlen := hr.row.len
  rw [Shp.rcs_len, nvs_len, show nS.n = 15 from rfl] at hlen
  have hlen : vs.length = n := by omega
  have hLe : ∀ j t, D.rnL N ((vs.map (·.1)).take j) = some t → t.length ≤ 20 * (D.prL ((vs.map (·.1)).take j)).length := fun j t ht => D.rnL_le (fun y hy a ha => by
    have hy2 := List.mem_of_mem_take hy
    obtain ⟨⟨y', p⟩, hm, e⟩ := List.mem_map.1 hy2
    have e : y' = y := e
    subst e
    obtain ⟨i, hi, e2⟩ := List.mem_iff_getElem.1 hm
    exact hle i y' p (by rw [List.getElem?_eq_getElem hi, e2]) a ha) t ht
  have HR := Lib.hid hr
  have H0 := Lib.hid h0
  have H5 := Lib.hid h5
  have HLE := Lib.hid hle
  have HLT := Lib.hid hLe
  have HP := Lib.hid hp
  have HB := Lib.hid hB
  have HN := Lib.hid hNu
  have HG := Lib.hid hG
  have HSG := Lib.hid hsg
  have HBL := Lib.hid hbl
  clear hr h0 h5 hle hLe hp hB hNu hG hsg
  go_enter Tryz.func64, Tryz.ntmps64
  go_wp2_with fail
  go_loopw [14] (fun i wr => ∃ (j : Nat) (t : List Nat), j ≤ n ∧ i = .int .i64 j ∧ Kept (D.rnL N ((vs.map (·.1)).take j) = some t) ∧ Hid (Rn x g b wr (L ++ t)) ∧ Hid (Nu b W wr)) (fun i _ => n - (intOf i).toNat)
  case atStart => exact ⟨0, [], Nat.zero_le _, rfl, ⟨by simp [D.rnL]⟩, Lib.hid (by simpa using HB.out), Lib.hid (Nu.refl _ _)⟩
  case round =>
    obtain ⟨j, t, hj, rfl, HT, HBj, HNj⟩ := hrel
    obtain ⟨wo, rfl⟩ : ∃ wo : World, wo = wr := ⟨_, rfl⟩
    by_cases hlt : j < n
    · obtain ⟨⟨y, p⟩, ht⟩ : ∃ a, vs[j]? = some a := ⟨_, List.getElem?_eq_getElem (by omega)⟩
      have hx : (vs.map (·.1))[j]? = some y := by simp [ht]
      obtain ⟨ad, rfl, hbk, hrd, hck⟩ := rw_at ((Nu.row (Nu.row HR.out HN.out) HNj.out).row) (nvs_at ht)
      obtain ⟨Y, hY⟩ : ∃ Y, nv y p.A p.m p.c = Y := ⟨_, rfl⟩
      have hYk : Y.k = y.k := by rw [← hY]; rfl
      have hYt : Y.t = D.sb y.t := by rw [← hY]; rfl
      have hYn : Y.n = D.pnm y := by rw [← hY]; rfl
      rw [hY] at hrd hck
      have hI : (j : Int) < n := by omega
      have hpx : D.prL ((vs.map (·.1)).take (j + 1)) = D.prL ((vs.map (·.1)).take j) ++ D.prN y := by rw [List.take_add_one, hx, D.prL_app]; simp [D.prL]
      have htot : (D.prL ((vs.map (·.1)).take (j + 1))).length ≤ (D.prL (vs.map (·.1))).length := by
        have := congrArg (fun l => (D.prL l).length) (List.take_append_drop (j + 1) (vs.map (·.1)))
        simp only [D.prL_app, List.length_append] at this
        omega
      rw [hpx, List.length_append] at htot
      have htl := HLT.out j t HT.out
      have hN : Blk (wo.alloc (.cells (nS.v Y) 116)) wo.heap.size 116 (nS.v Y) := Blk.new _ _ _
      have n0 : (wo.alloc (.cells (nS.v Y) 116)).cell? ⟨wo.heap.size, 0, none⟩ = some (.int .i64 (Y.k : Nat)) := nd_c0 hN
      have n3 := hN.lt
      obtain ⟨W1, hW1⟩ : ∃ W1, wo.alloc (.cells (nS.v Y) 116) = W1 := ⟨_, rfl⟩
      have hB1 : Rn x g b W1 (L ++ t) := by rw [← hW1]; exact HBj.out.on (below_alloc_ _ _)
      have hN1 : Nu b W W1 := by rw [← hW1]; exact HNj.out.trans (Nu.of_below (below_alloc_ _ _))
      have hbo : b < wo.heap.size := HBj.out.lt
      have FN : Hid (∀ W', Nu b W1 W' → Blk W' wo.heap.size 116 (nS.v Y)) := Lib.hid fun W' h => h.keep _ _ _ (by omega) (by decide) (hW1 ▸ hN)
      have HB1 := Lib.hid hB1
      have HN1 := Lib.hid hN1
      have hll : (L ++ t).length + 20 * (D.prN y).length ≤ 100000 := by rw [List.length_append]; omega
      have HNX := Lib.hid (fun a (ha : N y = some a) => D.rnL_next hx HT.out ha)
      have HST := Lib.hid (fun (ha : N y = none) => D.rnL_stop hx HT.out ha)
      have HLA := Lib.hid (HLE.out j y p ht)
      clear hN hB1 hN1 hpx htot hx htl
      by_cases hk0 : y.k = 0
      · have i0 : ((Y.k : Int) == 0) = true := by simp; omega
        obtain ⟨ht0, ht8, hNy⟩ := H0.out j y p ht hk0
        have hns : D.ns Y.t = y.t := by rw [hYt]; exact D.ns_sb ht8
        have hal := HLA.out _ hNy
        have CW := Lib.hid (fun W' (hW : Rn x g b W' (L ++ t)) => (by have := writeS_any (rr_bt x g) Y.t hW (by rw [hns]; exact ht0) (by rw [size_ns, hns]; omega); rw [hns] at this; exact this : Calls Tryz.prog 86 #[vr b, .string Y.t] W' fun e w' => e = .returned (.tuple #[.int .i64 (Y.t.size : Nat), .nilIface]) ∧ Rn x g b w' (L ++ t ++ y.t) ∧ Nu b W' w'))
        have HX := Kept.mk (HNX.out _ hNy)
        have n4 : ∀ W', Nu b W1 W' → W'.cell? ⟨wo.heap.size, 1, none⟩ = some (.string Y.t) ∧ wo.heap.size < W'.heap.size := fun W' h => by have q := (nf_blk (FN.out W' h)).t; rw [Nat.zero_add] at q; exact ⟨q, (FN.out W' h).lt⟩
        have N4 := Lib.hid n4
        have HW1 := Kept.mk hW1
        clear hk0 hYk ht ht0 ht8 hNy hns hal hY hYt hYn n4 HP H0 H5 hW1
        go_wp2_with fail
        rw [HW1.out]
        refine wp_region_noPanic ?_
        refine wp_region_held_drew (S := fun W' => Nu b W1 W' ∧ b < W'.heap.size) (by kernel_rfl) ⟨Nu.of_below ((Below.refl _ _).drew), HB1.out.lt⟩ (fun _ => ?_)
        obtain ⟨wd, hwd⟩ : ∃ wd, W1.drew = wd := ⟨_, rfl⟩
        have bd : Below W1.heap.size W1 wd := by rw [← hwd]; exact (Below.refl _ _).drew
        have sd : Nu b W1 wd ∧ b < wd.heap.size := ⟨Nu.of_below bd, Nat.lt_of_lt_of_le HB1.out.lt bd.size⟩
        rw [hwd]
        clear hwd
        refine takeS 0 (some 22) ?va0 (by kernel_rfl) (by kernel_rfl) (by kernel_rfl) (by kernel_rfl) (fun _ _ _ h => h) (by rfl) ?hya0 sd ?resta0
        case hya0 => (intro o ho W hW; simp only [List.getElem?_toArray, List.getElem?_cons_succ, List.getElem?_cons_zero, Option.some.injEq] at ho; subst ho; (try dsimp only at hW); have q0 := hW.2; obtain ⟨q1, q2⟩ := N4.out _ hW.1; go_simp; try rfl)
        try simp only [Act.put, List.setIfInBounds_toArray, List.set_cons_zero, List.set_cons_succ]
        refine takeS 1 (some 23) ?va1 (by kernel_rfl) (by kernel_rfl) (by kernel_rfl) (by kernel_rfl) (fun _ _ _ h => h) (by rfl) ?hya1 sd ?resta1
        case hya1 => (intro o ho W hW; simp only [List.getElem?_toArray, List.getElem?_cons_succ, List.getElem?_cons_zero, Option.some.injEq] at ho; subst ho; (try dsimp only at hW); have q0 := hW.2; obtain ⟨q1, q2⟩ := N4.out _ hW.1; go_simp; try rfl)
        try simp only [Act.put, List.setIfInBounds_toArray, List.set_cons_zero, List.set_cons_succ]
        refine takeS 2 (some 24) ?va2 (by kernel_rfl) (by kernel_rfl) (by kernel_rfl) (by kernel_rfl) (fun _ _ _ h => h) (by rfl) ?hya2 sd ?resta2
        case hya2 => (intro o ho W hW; simp only [List.getElem?_toArray, List.getElem?_cons_succ, List.getElem?_cons_zero, Option.some.injEq] at ho; subst ho; (try dsimp only at hW); have q0 := hW.2; obtain ⟨q1, q2⟩ := N4.out _ hW.1; go_simp; try rfl)
        try simp only [Act.put, List.setIfInBounds_toArray, List.set_cons_zero, List.set_cons_succ]
        refine takeS 3 (some 25) ?va3 (by kernel_rfl) (by kernel_rfl) (by kernel_rfl) (by kernel_rfl) (fun _ _ _ h => h) (by rfl) ?hya3 sd ?resta3
        case hya3 => (intro o ho W hW; simp only [List.getElem?_toArray, List.getElem?_cons_succ, List.getElem?_cons_zero, Option.some.injEq] at ho; subst ho; (try dsimp only at hW); have q0 := hW.2; obtain ⟨q1, q2⟩ := N4.out _ hW.1; go_simp; try rfl)
        try simp only [Act.put, List.setIfInBounds_toArray, List.set_cons_zero, List.set_cons_succ]
        refine takeS 4 (some 26) ?va4 (by kernel_rfl) (by kernel_rfl) (by kernel_rfl) (by kernel_rfl) (fun _ _ _ h => h) (by rfl) ?hya4 sd ?resta4
        case hya4 => (intro o ho W hW; simp only [List.getElem?_toArray, List.getElem?_cons_succ, List.getElem?_cons_zero, Option.some.injEq] at ho; subst ho; (try dsimp only at hW); have q0 := hW.2; obtain ⟨q1, q2⟩ := N4.out _ hW.1; go_simp; try rfl)
        try simp only [Act.put, List.setIfInBounds_toArray, List.set_cons_zero, List.set_cons_succ]
        refine nextS 5 (by kernel_rfl) (by rfl) (fun o ho K hK => ?_)
        simp only [List.getElem?_toArray, List.getElem?_cons_succ, List.getElem?_cons_zero, Option.some.injEq] at ho; subst ho
        go_simp
        (go_at_call 86; (with_reducible refine (CW.out _ (HB1.out.on bd)).mono ?_); rintro e ww ⟨rfl, bw, nw⟩)
        have sw : Nu b W1 ww ∧ b < ww.heap.size := ⟨sd.1.trans nw, bw.lt⟩
        have HBw := Lib.hid bw
        clear bw nw
        refine hK.out _ _ sw (fun _ => ?_)
        clear hK K
        try simp only [Act.put, List.setIfInBounds_toArray, List.set_cons_zero, List.set_cons_succ]
        refine wpAnyH_done (by kernel_rfl) ?_ _
        refine NoPanic.normal ?_
        go_wp2_with fail
        go_roundw
        case rel => exact ⟨j + 1, _, by omega, by go_num, HX, Lib.hid (by rw [← List.append_assoc]; exact HBw.out), Lib.hid (HN1.out.trans sw.1)⟩
        case measure => simp [intOf]; omega
      · have i0 : ((Y.k : Int) == 0) = false := by simp; omega
        by_cases hk5 : y.k = 5
        · have i5 : ((Y.k : Int) == 5) = true := by simp; omega
          have hNy := H5.out j y p ht hk5
          have hal := HLA.out _ hNy
          have CW := Lib.hid (number_any x g b sg W1 (L ++ t) HSG.out HB1.out ((HG.out.to (HN.out.trans HN1.out)).out _ (Nu.refl _ _)).2.1 (by omega))
          have HX := Kept.mk (HNX.out _ hNy)
          subst hW1
          clear hk0 hk5 hYk ht hNy hal hY hYt hYn HP H0 H5
          go_wp2_with (go_at_call 111; (with_reducible refine CW.out.mono ?_); rintro e w2 ⟨rfl, hb2, hn2⟩; have B2 := Lib.hid hb2; have N2 := Lib.hid hn2; clear hb2 hn2)
          go_roundw
          case rel => exact ⟨j + 1, _, by omega, by go_num, HX, Lib.hid (by rw [← List.append_assoc]; exact B2.out), Lib.hid (HN1.out.trans N2.out)⟩
          case measure => simp [intOf]; omega
        · have i5 : ((Y.k : Int) == 5) = false := by simp; omega
          obtain ⟨hp1, hp2⟩ := HP.out j y p ht hk0 hk5
          rw [hY] at hp2
          rw [← hYn] at hp1 hp2
          have HL := Lib.hid (fun W' (h : Below W1.heap.size W1 W') => (((HG.out.to (HN.out.trans HN1.out)).out W' (Nu.of_below h)).2.2).look Y.n)
          have NF := Lib.hid (fun W' (h : Below W1.heap.size W1 W') => (⟨(by have q := (nf_blk (FN.out W' (Nu.of_below h))).n; rw [Nat.zero_add] at q; exact q), (FN.out W' (Nu.of_below h)).lt⟩ : Nm.rd W' ⟨wo.heap.size, 2, none⟩ = some Y.n ∧ wo.heap.size < W'.heap.size))
          have MC := Lib.hid (fun W' (h : Below W1.heap.size W1 W') => (⟨(rn_tag (HB1.out.on h)).2, (HB1.out.on h).lt⟩ : W'.cell? ⟨b, 12, none⟩ = some (.map (some g)) ∧ b < W'.heap.size))
          have HNW := Lib.hid (HN.out.trans HN1.out)
          have HW1 := Kept.mk hW1
          cases hf : f Y.n with
          | none =>
            have HS := Kept.mk (HST.out (hp1 hf))
            rw [hf] at HL
            have HL : Hid (∀ W', Below W1.heap.size W1 W' → (Instr.lookup 144 (.map (some g)) (.agg (Nm.nc Y.n)) true).run Tryz.prog W' = .ok (.tuple #[.agg (vS.v zVl), .bool false]) W') := HL
            clear hk0 hk5 hYk ht hY hYt hYn HP H0 H5 hp1 hp2 hf hW1
            go_wp2_with fail
            rw [HW1.out]
            refine wp_region_noPanic ?_
            refine wp_region_held_drew (S := fun W' => Below W1.heap.size W1 W') (by kernel_rfl) ((Below.refl _ _).drew) (fun _ => ?_)
            obtain ⟨wd, hwd⟩ : ∃ wd, W1.drew = wd := ⟨_, rfl⟩
            have sd : Below W1.heap.size W1 wd := by rw [← hwd]; exact (Below.refl _ _).drew
            rw [hwd]
            clear hwd
            refine takeS 0 (some 34) ?vb0 (by kernel_rfl) (by kernel_rfl) (by kernel_rfl) (by kernel_rfl) (fun _ _ _ h => h) (by rfl) ?hyb0 sd ?restb0
            case hyb0 => (intro o ho W hW; simp only [List.getElem?_toArray, List.getElem?_cons_succ, List.getElem?_cons_zero, Option.some.injEq] at ho; subst ho; (try dsimp only at hW); obtain ⟨q0, q1⟩ := NF.out _ hW; obtain ⟨q2, q3⟩ := MC.out _ hW; have q4 := HL.out _ hW; go_simp; try rfl)
            try simp only [Act.put, List.setIfInBounds_toArray, List.set_cons_zero, List.set_cons_succ]
            refine takeS 1 (some 35) ?vb1 (by kernel_rfl) (by kernel_rfl) (by kernel_rfl) (by kernel_rfl) (fun _ _ _ h => h) (by rfl) ?hyb1 sd ?restb1
            case hyb1 => (intro o ho W hW; simp only [List.getElem?_toArray, List.getElem?_cons_succ, List.getElem?_cons_zero, Option.some.injEq] at ho; subst ho; (try dsimp only at hW); obtain ⟨q0, q1⟩ := NF.out _ hW; obtain ⟨q2, q3⟩ := MC.out _ hW; have q4 := HL.out _ hW; go_simp; try rfl)
            try simp only [Act.put, List.setIfInBounds_toArray, List.set_cons_zero, List.set_cons_succ]
            refine takeS 2 (some 36) ?vb2 (by kernel_rfl) (by kernel_rfl) (by kernel_rfl) (by kernel_rfl) (fun _ _ _ h => h) (by rfl) ?hyb2 sd ?restb2
            case hyb2 => (intro o ho W hW; simp only [List.getElem?_toArray, List.getElem?_cons_succ, List.getElem?_cons_zero, Option.some.injEq] at ho; subst ho; (try dsimp only at hW); obtain ⟨q0, q1⟩ := NF.out _ hW; obtain ⟨q2, q3⟩ := MC.out _ hW; have q4 := HL.out _ hW; go_simp; try rfl)
            try simp only [Act.put, List.setIfInBounds_toArray, List.set_cons_zero, List.set_cons_succ]
            refine takeS 3 (some 37) ?vb3 (by kernel_rfl) (by kernel_rfl) (by kernel_rfl) (by kernel_rfl) (fun _ _ _ h => h) (by rfl) ?hyb3 sd ?restb3
            case hyb3 => (intro o ho W hW; simp only [List.getElem?_toArray, List.getElem?_cons_succ, List.getElem?_cons_zero, Option.some.injEq] at ho; subst ho; (try dsimp only at hW); obtain ⟨q0, q1⟩ := NF.out _ hW; obtain ⟨q2, q3⟩ := MC.out _ hW; have q4 := HL.out _ hW; go_simp; try rfl)
            try simp only [Act.put, List.setIfInBounds_toArray, List.set_cons_zero, List.set_cons_succ]
            refine takeS 4 (some 38) ?vb4 (by kernel_rfl) (by kernel_rfl) (by kernel_rfl) (by kernel_rfl) (fun _ _ _ h => h) (by rfl) ?hyb4 sd ?restb4
            case hyb4 => (intro o ho W hW; simp only [List.getElem?_toArray, List.getElem?_cons_succ, List.getElem?_cons_zero, Option.some.injEq] at ho; subst ho; (try dsimp only at hW); obtain ⟨q0, q1⟩ := NF.out _ hW; obtain ⟨q2, q3⟩ := MC.out _ hW; have q4 := HL.out _ hW; go_simp; try rfl)
            try simp only [Act.put, List.setIfInBounds_toArray, List.set_cons_zero, List.set_cons_succ]
            refine takeS 5 (some 39) ?vb5 (by kernel_rfl) (by kernel_rfl) (by kernel_rfl) (by kernel_rfl) (fun _ _ _ h => h) (by rfl) ?hyb5 sd ?restb5
            case hyb5 => (intro o ho W hW; simp only [List.getElem?_toArray, List.getElem?_cons_succ, List.getElem?_cons_zero, Option.some.injEq] at ho; subst ho; (try dsimp only at hW); obtain ⟨q0, q1⟩ := NF.out _ hW; obtain ⟨q2, q3⟩ := MC.out _ hW; have q4 := HL.out _ hW; go_simp; try rfl)
            try simp only [Act.put, List.setIfInBounds_toArray, List.set_cons_zero, List.set_cons_succ]
            refine takeS 6 (some 40) ?vb6 (by kernel_rfl) (by kernel_rfl) (by kernel_rfl) (by kernel_rfl) (fun _ _ _ h => h) (by rfl) ?hyb6 sd ?restb6
            case hyb6 => (intro o ho W hW; simp only [List.getElem?_toArray, List.getElem?_cons_succ, List.getElem?_cons_zero, Option.some.injEq] at ho; subst ho; (try dsimp only at hW); obtain ⟨q0, q1⟩ := NF.out _ hW; obtain ⟨q2, q3⟩ := MC.out _ hW; have q4 := HL.out _ hW; go_simp; try rfl)
            try simp only [Act.put, List.setIfInBounds_toArray, List.set_cons_zero, List.set_cons_succ]
            refine takeS 7 (some 33) ?vb7 (by kernel_rfl) (by kernel_rfl) (by kernel_rfl) (by kernel_rfl) (fun _ _ _ h => h) (by rfl) ?hyb7 sd ?restb7
            case hyb7 => (intro o ho W hW; simp only [List.getElem?_toArray, List.getElem?_cons_succ, List.getElem?_cons_zero, Option.some.injEq] at ho; subst ho; (try dsimp only at hW); obtain ⟨q0, q1⟩ := NF.out _ hW; obtain ⟨q2, q3⟩ := MC.out _ hW; have q4 := HL.out _ hW; go_simp; try rfl)
            try simp only [Act.put, List.setIfInBounds_toArray, List.set_cons_zero, List.set_cons_succ]
            refine takeS 8 (some 41) ?vb8 (by kernel_rfl) (by kernel_rfl) (by kernel_rfl) (by kernel_rfl) (fun _ _ _ h => h) (by rfl) ?hyb8 sd ?restb8
            case hyb8 => (intro o ho W hW; simp only [List.getElem?_toArray, List.getElem?_cons_succ, List.getElem?_cons_zero, Option.some.injEq] at ho; subst ho; (try dsimp only at hW); obtain ⟨q0, q1⟩ := NF.out _ hW; obtain ⟨q2, q3⟩ := MC.out _ hW; have q4 := HL.out _ hW; go_simp; try rfl)
            try simp only [Act.put, List.setIfInBounds_toArray, List.set_cons_zero, List.set_cons_succ]
            refine takeS 9 (some 42) ?vb9 (by kernel_rfl) (by kernel_rfl) (by kernel_rfl) (by kernel_rfl) (fun _ _ _ h => h) (by rfl) ?hyb9 sd ?restb9
            case hyb9 => (intro o ho W hW; simp only [List.getElem?_toArray, List.getElem?_cons_succ, List.getElem?_cons_zero, Option.some.injEq] at ho; subst ho; (try dsimp only at hW); obtain ⟨q0, q1⟩ := NF.out _ hW; obtain ⟨q2, q3⟩ := MC.out _ hW; have q4 := HL.out _ hW; go_simp; try rfl)
            try simp only [Act.put, List.setIfInBounds_toArray, List.set_cons_zero, List.set_cons_succ]
            refine nextS 10 (by kernel_rfl) (by rfl) (fun o ho K hK => ?_)
            simp only [List.getElem?_toArray, List.getElem?_cons_succ, List.getElem?_cons_zero, Option.some.injEq] at ho; subst ho
            go_simp
            have sa : Below W1.heap.size W1 (wd.alloc (.cells #[.int .u8 0, .int .u8 0, .int .u8 0, .int .u8 0, .int .u8 0, .int .u8 0, .int .u8 0, .int .u8 0, .int .u8 0, .int .u8 0, .int .u8 0, .int .u8 0, .int .u64 0, .string ⟨#[]⟩] 63)) := sd.alloc sd.size _
            refine hK.out _ _ sa (fun _ => ?_)
            clear hK K
            try simp only [Act.put, List.setIfInBounds_toArray, List.set_cons_zero, List.set_cons_succ]
            refine nextS 11 (by kernel_rfl) (by rfl) (fun o ho K hK => ?_)
            simp only [List.getElem?_toArray, List.getElem?_cons_succ, List.getElem?_cons_zero, Option.some.injEq] at ho; subst ho
            go_simp
            have s11 : Below W1.heap.size W1 (wd.alloc (.cells (vS.v zVl) 63)) := sd.alloc sd.size _
            refine hK.out _ _ s11 (fun _ => ?_)
            clear hK K
            try simp only [Act.put, List.setIfInBounds_toArray, List.set_cons_zero, List.set_cons_succ]
            refine takeS 12 (some 10) ?vb12 (by kernel_rfl) (by kernel_rfl) (by kernel_rfl) (by kernel_rfl) (fun _ _ _ h => h) (by rfl) ?hyb12 s11 ?restb12
            case hyb12 => (intro o ho W hW; simp only [List.getElem?_toArray, List.getElem?_cons_succ, List.getElem?_cons_zero, Option.some.injEq] at ho; subst ho; (try dsimp only at hW); skip; go_simp; try rfl)
            try simp only [Act.put, List.setIfInBounds_toArray, List.set_cons_zero, List.set_cons_succ]
            refine wpAnyH_done (by kernel_rfl) ?_ _
            refine NoPanic.normal ?_
            go_wp2_with fail
            refine bodyPost_ret (v := .int .i64 7) (by simp [results, Tryz.results64, go_sem]) rfl ?_
            rw [HS.out]
            exact ⟨rfl, (fun t e => by cases e), HN1.out.trans (Nu.of_below s11)⟩
          | some z =>
            rw [hf] at HL
            have HL : Hid (∀ W', Below W1.heap.size W1 W' → (Instr.lookup 144 (.map (some g)) (.agg (Nm.nc Y.n)) true).run Tryz.prog W' = .ok (.tuple #[.agg (vS.v z), .bool true]) W') := HL
            have hpz := hp2 z hf
            cases hNy : N y with
            | none =>
              rw [hNy] at hpz
              have HS := Kept.mk (HST.out hNy)
              have CP : Hid (∀ W', Below W1.heap.size W1 W' → Calls Tryz.prog 112 #[vr b, .agg (nS.v Y), .agg (vS.v z), .int .u64 (sg : Nat)] W' fun e w' => e = .returned (.int .i64 7) ∧ Nu b W' w') := Lib.hid fun W' h => (hpz W' (L ++ t) (HNW.out.trans (Nu.of_below h)) (HB1.out.on h) hll).mono fun e w' ⟨h1, h2, h3⟩ => ⟨h1, h3⟩
              clear hk0 hk5 hYk ht hY hYt hYn HP H0 H5 hp1 hp2 hf hW1 hpz hNy
              go_wp2_with fail
              rw [HW1.out]
              refine wp_region_noPanic ?_
              refine wp_region_held_drew (S := fun W' => Below W1.heap.size W1 W') (by kernel_rfl) ((Below.refl _ _).drew) (fun _ => ?_)
              obtain ⟨wd, hwd⟩ : ∃ wd, W1.drew = wd := ⟨_, rfl⟩
              have sd : Below W1.heap.size W1 wd := by rw [← hwd]; exact (Below.refl _ _).drew
              rw [hwd]
              clear hwd
              refine takeS 0 (some 34) ?vc0 (by kernel_rfl) (by kernel_rfl) (by kernel_rfl) (by kernel_rfl) (fun _ _ _ h => h) (by rfl) ?hyc0 sd ?restc0
              case hyc0 => (intro o ho W hW; simp only [List.getElem?_toArray, List.getElem?_cons_succ, List.getElem?_cons_zero, Option.some.injEq] at ho; subst ho; (try dsimp only at hW); obtain ⟨q0, q1⟩ := NF.out _ hW; obtain ⟨q2, q3⟩ := MC.out _ hW; have q4 := HL.out _ hW; go_simp; try rfl)
              try simp only [Act.put, List.setIfInBounds_toArray, List.set_cons_zero, List.set_cons_succ]
              refine takeS 1 (some 35) ?vc1 (by kernel_rfl) (by kernel_rfl) (by kernel_rfl) (by kernel_rfl) (fun _ _ _ h => h) (by rfl) ?hyc1 sd ?restc1
              case hyc1 => (intro o ho W hW; simp only [List.getElem?_toArray, List.getElem?_cons_succ, List.getElem?_cons_zero, Option.some.injEq] at ho; subst ho; (try dsimp only at hW); obtain ⟨q0, q1⟩ := NF.out _ hW; obtain ⟨q2, q3⟩ := MC.out _ hW; have q4 := HL.out _ hW; go_simp; try rfl)
              try simp only [Act.put, List.setIfInBounds_toArray, List.set_cons_zero, List.set_cons_succ]
              refine takeS 2 (some 36) ?vc2 (by kernel_rfl) (by kernel_rfl) (by kernel_rfl) (by kernel_rfl) (fun _ _ _ h => h) (by rfl) ?hyc2 sd ?restc2
              case hyc2 => (intro o ho W hW; simp only [List.getElem?_toArray, List.getElem?_cons_succ, List.getElem?_cons_zero, Option.some.injEq] at ho; subst ho; (try dsimp only at hW); obtain ⟨q0, q1⟩ := NF.out _ hW; obtain ⟨q2, q3⟩ := MC.out _ hW; have q4 := HL.out _ hW; go_simp; try rfl)
              try simp only [Act.put, List.setIfInBounds_toArray, List.set_cons_zero, List.set_cons_succ]
              refine takeS 3 (some 37) ?vc3 (by kernel_rfl) (by kernel_rfl) (by kernel_rfl) (by kernel_rfl) (fun _ _ _ h => h) (by rfl) ?hyc3 sd ?restc3
              case hyc3 => (intro o ho W hW; simp only [List.getElem?_toArray, List.getElem?_cons_succ, List.getElem?_cons_zero, Option.some.injEq] at ho; subst ho; (try dsimp only at hW); obtain ⟨q0, q1⟩ := NF.out _ hW; obtain ⟨q2, q3⟩ := MC.out _ hW; have q4 := HL.out _ hW; go_simp; try rfl)
              try simp only [Act.put, List.setIfInBounds_toArray, List.set_cons_zero, List.set_cons_succ]
              refine takeS 4 (some 38) ?vc4 (by kernel_rfl) (by kernel_rfl) (by kernel_rfl) (by kernel_rfl) (fun _ _ _ h => h) (by rfl) ?hyc4 sd ?restc4
              case hyc4 => (intro o ho W hW; simp only [List.getElem?_toArray, List.getElem?_cons_succ, List.getElem?_cons_zero, Option.some.injEq] at ho; subst ho; (try dsimp only at hW); obtain ⟨q0, q1⟩ := NF.out _ hW; obtain ⟨q2, q3⟩ := MC.out _ hW; have q4 := HL.out _ hW; go_simp; try rfl)
              try simp only [Act.put, List.setIfInBounds_toArray, List.set_cons_zero, List.set_cons_succ]
              refine takeS 5 (some 39) ?vc5 (by kernel_rfl) (by kernel_rfl) (by kernel_rfl) (by kernel_rfl) (fun _ _ _ h => h) (by rfl) ?hyc5 sd ?restc5
              case hyc5 => (intro o ho W hW; simp only [List.getElem?_toArray, List.getElem?_cons_succ, List.getElem?_cons_zero, Option.some.injEq] at ho; subst ho; (try dsimp only at hW); obtain ⟨q0, q1⟩ := NF.out _ hW; obtain ⟨q2, q3⟩ := MC.out _ hW; have q4 := HL.out _ hW; go_simp; try rfl)
              try simp only [Act.put, List.setIfInBounds_toArray, List.set_cons_zero, List.set_cons_succ]
              refine takeS 6 (some 40) ?vc6 (by kernel_rfl) (by kernel_rfl) (by kernel_rfl) (by kernel_rfl) (fun _ _ _ h => h) (by rfl) ?hyc6 sd ?restc6
              case hyc6 => (intro o ho W hW; simp only [List.getElem?_toArray, List.getElem?_cons_succ, List.getElem?_cons_zero, Option.some.injEq] at ho; subst ho; (try dsimp only at hW); obtain ⟨q0, q1⟩ := NF.out _ hW; obtain ⟨q2, q3⟩ := MC.out _ hW; have q4 := HL.out _ hW; go_simp; try rfl)
              try simp only [Act.put, List.setIfInBounds_toArray, List.set_cons_zero, List.set_cons_succ]
              refine takeS 7 (some 33) ?vc7 (by kernel_rfl) (by kernel_rfl) (by kernel_rfl) (by kernel_rfl) (fun _ _ _ h => h) (by rfl) ?hyc7 sd ?restc7
              case hyc7 => (intro o ho W hW; simp only [List.getElem?_toArray, List.getElem?_cons_succ, List.getElem?_cons_zero, Option.some.injEq] at ho; subst ho; (try dsimp only at hW); obtain ⟨q0, q1⟩ := NF.out _ hW; obtain ⟨q2, q3⟩ := MC.out _ hW; have q4 := HL.out _ hW; go_simp; try rfl)
              try simp only [Act.put, List.setIfInBounds_toArray, List.set_cons_zero, List.set_cons_succ]
              refine takeS 8 (some 41) ?vc8 (by kernel_rfl) (by kernel_rfl) (by kernel_rfl) (by kernel_rfl) (fun _ _ _ h => h) (by rfl) ?hyc8 sd ?restc8
              case hyc8 => (intro o ho W hW; simp only [List.getElem?_toArray, List.getElem?_cons_succ, List.getElem?_cons_zero, Option.some.injEq] at ho; subst ho; (try dsimp only at hW); obtain ⟨q0, q1⟩ := NF.out _ hW; obtain ⟨q2, q3⟩ := MC.out _ hW; have q4 := HL.out _ hW; go_simp; try rfl)
              try simp only [Act.put, List.setIfInBounds_toArray, List.set_cons_zero, List.set_cons_succ]
              refine takeS 9 (some 42) ?vc9 (by kernel_rfl) (by kernel_rfl) (by kernel_rfl) (by kernel_rfl) (fun _ _ _ h => h) (by rfl) ?hyc9 sd ?restc9
              case hyc9 => (intro o ho W hW; simp only [List.getElem?_toArray, List.getElem?_cons_succ, List.getElem?_cons_zero, Option.some.injEq] at ho; subst ho; (try dsimp only at hW); obtain ⟨q0, q1⟩ := NF.out _ hW; obtain ⟨q2, q3⟩ := MC.out _ hW; have q4 := HL.out _ hW; go_simp; try rfl)
              try simp only [Act.put, List.setIfInBounds_toArray, List.set_cons_zero, List.set_cons_succ]
              refine nextS 10 (by kernel_rfl) (by rfl) (fun o ho K hK => ?_)
              simp only [List.getElem?_toArray, List.getElem?_cons_succ, List.getElem?_cons_zero, Option.some.injEq] at ho; subst ho
              go_simp
              have sa : Below W1.heap.size W1 (wd.alloc (.cells #[.int .u8 0, .int .u8 0, .int .u8 0, .int .u8 0, .int .u8 0, .int .u8 0, .int .u8 0, .int .u8 0, .int .u8 0, .int .u8 0, .int .u8 0, .int .u8 0, .int .u64 0, .string ⟨#[]⟩] 63)) := sd.alloc sd.size _
              refine hK.out _ _ sa (fun _ => ?_)
              clear hK K
              try simp only [Act.put, List.setIfInBounds_toArray, List.set_cons_zero, List.set_cons_succ]
              refine nextS 11 (by kernel_rfl) (by rfl) (fun o ho K hK => ?_)
              simp only [List.getElem?_toArray, List.getElem?_cons_succ, List.getElem?_cons_zero, Option.some.injEq] at ho; subst ho
              go_simp
              have s11 : Below W1.heap.size W1 (wd.alloc (.cells (vS.v z) 63)) := sd.alloc sd.size _
              refine hK.out _ _ s11 (fun _ => ?_)
              clear hK K
              try simp only [Act.put, List.setIfInBounds_toArray, List.set_cons_zero, List.set_cons_succ]
              refine takeS 12 (some 10) ?vc12 (by kernel_rfl) (by kernel_rfl) (by kernel_rfl) (by kernel_rfl) (fun _ _ _ h => h) (by rfl) ?hyc12 s11 ?restc12
              case hyc12 => (intro o ho W hW; simp only [List.getElem?_toArray, List.getElem?_cons_succ, List.getElem?_cons_zero, Option.some.injEq] at ho; subst ho; (try dsimp only at hW); skip; go_simp; try rfl)
              try simp only [Act.put, List.setIfInBounds_toArray, List.set_cons_zero, List.set_cons_succ]
              refine wpAnyH_done (by kernel_rfl) ?_ _
              refine NoPanic.normal ?_
              have v0 : vS.rd (wd.alloc (.cells (vS.v z) 63)) ⟨wd.heap.size, 0, none⟩ = some z := Shp.rd_blk (Blk.new _ _ _)
              have v1 := nd_rd (FN.out _ (Nu.of_below s11))
              have v2 : wo.heap.size < (wd.alloc (.cells (vS.v z) 63)).heap.size := (NF.out _ s11).2
              have v3 : wd.heap.size < (wd.alloc (.cells (vS.v z) 63)).heap.size := by simp
              go_wp2_with (go_at_call 112; (with_reducible refine (CP.out _ s11).mono ?_); rintro e w5 ⟨rfl, n5⟩; have N5 := Lib.hid n5; clear n5)
              refine bodyPost_ret (v := .int .i64 7) (by simp [results, Tryz.results64, go_sem]) rfl ?_
              rw [HS.out]
              exact ⟨rfl, (fun t e => by cases e), HN1.out.trans ((Nu.of_below s11).trans N5.out)⟩
            | some a =>
              rw [hNy] at hpz
              have HX := Kept.mk (HNX.out _ hNy)
              have CP : Hid (∀ W', Below W1.heap.size W1 W' → Calls Tryz.prog 112 #[vr b, .agg (nS.v Y), .agg (vS.v z), .int .u64 (sg : Nat)] W' fun e w' => e = .returned (.int .i64 0) ∧ Rn x g b w' (L ++ t ++ a) ∧ Nu b W' w') := Lib.hid fun W' h => (hpz W' (L ++ t) (HNW.out.trans (Nu.of_below h)) (HB1.out.on h) hll).mono fun e w' ⟨h1, h2, h3⟩ => ⟨h1, h2 a rfl, h3⟩
              clear hk0 hk5 hYk ht hY hYt hYn HP H0 H5 hp1 hp2 hf hW1 hpz hNy
              go_wp2_with fail
              rw [HW1.out]
              refine wp_region_noPanic ?_
              refine wp_region_held_drew (S := fun W' => Below W1.heap.size W1 W') (by kernel_rfl) ((Below.refl _ _).drew) (fun _ => ?_)
              obtain ⟨wd, hwd⟩ : ∃ wd, W1.drew = wd := ⟨_, rfl⟩
              have sd : Below W1.heap.size W1 wd := by rw [← hwd]; exact (Below.refl _ _).drew
              rw [hwd]
              clear hwd
              refine takeS 0 (some 34) ?vd0 (by kernel_rfl) (by kernel_rfl) (by kernel_rfl) (by kernel_rfl) (fun _ _ _ h => h) (by rfl) ?hyd0 sd ?restd0
              case hyd0 => (intro o ho W hW; simp only [List.getElem?_toArray, List.getElem?_cons_succ, List.getElem?_cons_zero, Option.some.injEq] at ho; subst ho; (try dsimp only at hW); obtain ⟨q0, q1⟩ := NF.out _ hW; obtain ⟨q2, q3⟩ := MC.out _ hW; have q4 := HL.out _ hW; go_simp; try rfl)
              try simp only [Act.put, List.setIfInBounds_toArray, List.set_cons_zero, List.set_cons_succ]
              refine takeS 1 (some 35) ?vd1 (by kernel_rfl) (by kernel_rfl) (by kernel_rfl) (by kernel_rfl) (fun _ _ _ h => h) (by rfl) ?hyd1 sd ?restd1
              case hyd1 => (intro o ho W hW; simp only [List.getElem?_toArray, List.getElem?_cons_succ, List.getElem?_cons_zero, Option.some.injEq] at ho; subst ho; (try dsimp only at hW); obtain ⟨q0, q1⟩ := NF.out _ hW; obtain ⟨q2, q3⟩ := MC.out _ hW; have q4 := HL.out _ hW; go_simp; try rfl)
              try simp only [Act.put, List.setIfInBounds_toArray, List.set_cons_zero, List.set_cons_succ]
              refine takeS 2 (some 36) ?vd2 (by kernel_rfl) (by kernel_rfl) (by kernel_rfl) (by kernel_rfl) (fun _ _ _ h => h) (by rfl) ?hyd2 sd ?restd2
              case hyd2 => (intro o ho W hW; simp only [List.getElem?_toArray, List.getElem?_cons_succ, List.getElem?_cons_zero, Option.some.injEq] at ho; subst ho; (try dsimp only at hW); obtain ⟨q0, q1⟩ := NF.out _ hW; obtain ⟨q2, q3⟩ := MC.out _ hW; have q4 := HL.out _ hW; go_simp; try rfl)
              try simp only [Act.put, List.setIfInBounds_toArray, List.set_cons_zero, List.set_cons_succ]
              refine takeS 3 (some 37) ?vd3 (by kernel_rfl) (by kernel_rfl) (by kernel_rfl) (by kernel_rfl) (fun _ _ _ h => h) (by rfl) ?hyd3 sd ?restd3
              case hyd3 => (intro o ho W hW; simp only [List.getElem?_toArray, List.getElem?_cons_succ, List.getElem?_cons_zero, Option.some.injEq] at ho; subst ho; (try dsimp only at hW); obtain ⟨q0, q1⟩ := NF.out _ hW; obtain ⟨q2, q3⟩ := MC.out _ hW; have q4 := HL.out _ hW; go_simp; try rfl)
              try simp only [Act.put, List.setIfInBounds_toArray, List.set_cons_zero, List.set_cons_succ]
              refine takeS 4 (some 38) ?vd4 (by kernel_rfl) (by kernel_rfl) (by kernel_rfl) (by kernel_rfl) (fun _ _ _ h => h) (by rfl) ?hyd4 sd ?restd4
              case hyd4 => (intro o ho W hW; simp only [List.getElem?_toArray, List.getElem?_cons_succ, List.getElem?_cons_zero, Option.some.injEq] at ho; subst ho; (try dsimp only at hW); obtain ⟨q0, q1⟩ := NF.out _ hW; obtain ⟨q2, q3⟩ := MC.out _ hW; have q4 := HL.out _ hW; go_simp; try rfl)
              try simp only [Act.put, List.setIfInBounds_toArray, List.set_cons_zero, List.set_cons_succ]
              refine takeS 5 (some 39) ?vd5 (by kernel_rfl) (by kernel_rfl) (by kernel_rfl) (by kernel_rfl) (fun _ _ _ h => h) (by rfl) ?hyd5 sd ?restd5
              case hyd5 => (intro o ho W hW; simp only [List.getElem?_toArray, List.getElem?_cons_succ, List.getElem?_cons_zero, Option.some.injEq] at ho; subst ho; (try dsimp only at hW); obtain ⟨q0, q1⟩ := NF.out _ hW; obtain ⟨q2, q3⟩ := MC.out _ hW; have q4 := HL.out _ hW; go_simp; try rfl)
              try simp only [Act.put, List.setIfInBounds_toArray, List.set_cons_zero, List.set_cons_succ]
              refine takeS 6 (some 40) ?vd6 (by kernel_rfl) (by kernel_rfl) (by kernel_rfl) (by kernel_rfl) (fun _ _ _ h => h) (by rfl) ?hyd6 sd ?restd6
              case hyd6 => (intro o ho W hW; simp only [List.getElem?_toArray, List.getElem?_cons_succ, List.getElem?_cons_zero, Option.some.injEq] at ho; subst ho; (try dsimp only at hW); obtain ⟨q0, q1⟩ := NF.out _ hW; obtain ⟨q2, q3⟩ := MC.out _ hW; have q4 := HL.out _ hW; go_simp; try rfl)
              try simp only [Act.put, List.setIfInBounds_toArray, List.set_cons_zero, List.set_cons_succ]
              refine takeS 7 (some 33) ?vd7 (by kernel_rfl) (by kernel_rfl) (by kernel_rfl) (by kernel_rfl) (fun _ _ _ h => h) (by rfl) ?hyd7 sd ?restd7
              case hyd7 => (intro o ho W hW; simp only [List.getElem?_toArray, List.getElem?_cons_succ, List.getElem?_cons_zero, Option.some.injEq] at ho; subst ho; (try dsimp only at hW); obtain ⟨q0, q1⟩ := NF.out _ hW; obtain ⟨q2, q3⟩ := MC.out _ hW; have q4 := HL.out _ hW; go_simp; try rfl)
              try simp only [Act.put, List.setIfInBounds_toArray, List.set_cons_zero, List.set_cons_succ]
              refine takeS 8 (some 41) ?vd8 (by kernel_rfl) (by kernel_rfl) (by kernel_rfl) (by kernel_rfl) (fun _ _ _ h => h) (by rfl) ?hyd8 sd ?restd8
              case hyd8 => (intro o ho W hW; simp only [List.getElem?_toArray, List.getElem?_cons_succ, List.getElem?_cons_zero, Option.some.injEq] at ho; subst ho; (try dsimp only at hW); obtain ⟨q0, q1⟩ := NF.out _ hW; obtain ⟨q2, q3⟩ := MC.out _ hW; have q4 := HL.out _ hW; go_simp; try rfl)
              try simp only [Act.put, List.setIfInBounds_toArray, List.set_cons_zero, List.set_cons_succ]
              refine takeS 9 (some 42) ?vd9 (by kernel_rfl) (by kernel_rfl) (by kernel_rfl) (by kernel_rfl) (fun _ _ _ h => h) (by rfl) ?hyd9 sd ?restd9
              case hyd9 => (intro o ho W hW; simp only [List.getElem?_toArray, List.getElem?_cons_succ, List.getElem?_cons_zero, Option.some.injEq] at ho; subst ho; (try dsimp only at hW); obtain ⟨q0, q1⟩ := NF.out _ hW; obtain ⟨q2, q3⟩ := MC.out _ hW; have q4 := HL.out _ hW; go_simp; try rfl)
              try simp only [Act.put, List.setIfInBounds_toArray, List.set_cons_zero, List.set_cons_succ]
              refine nextS 10 (by kernel_rfl) (by rfl) (fun o ho K hK => ?_)
              simp only [List.getElem?_toArray, List.getElem?_cons_succ, List.getElem?_cons_zero, Option.some.injEq] at ho; subst ho
              go_simp
              have sa : Below W1.heap.size W1 (wd.alloc (.cells #[.int .u8 0, .int .u8 0, .int .u8 0, .int .u8 0, .int .u8 0, .int .u8 0, .int .u8 0, .int .u8 0, .int .u8 0, .int .u8 0, .int .u8 0, .int .u8 0, .int .u64 0, .string ⟨#[]⟩] 63)) := sd.alloc sd.size _
              refine hK.out _ _ sa (fun _ => ?_)
              clear hK K
              try simp only [Act.put, List.setIfInBounds_toArray, List.set_cons_zero, List.set_cons_succ]
              refine nextS 11 (by kernel_rfl) (by rfl) (fun o ho K hK => ?_)
              simp only [List.getElem?_toArray, List.getElem?_cons_succ, List.getElem?_cons_zero, Option.some.injEq] at ho; subst ho
              go_simp
              have s11 : Below W1.heap.size W1 (wd.alloc (.cells (vS.v z) 63)) := sd.alloc sd.size _
              refine hK.out _ _ s11 (fun _ => ?_)
              clear hK K
              try simp only [Act.put, List.setIfInBounds_toArray, List.set_cons_zero, List.set_cons_succ]
              refine takeS 12 (some 10) ?vd12 (by kernel_rfl) (by kernel_rfl) (by kernel_rfl) (by kernel_rfl) (fun _ _ _ h => h) (by rfl) ?hyd12 s11 ?restd12
              case hyd12 => (intro o ho W hW; simp only [List.getElem?_toArray, List.getElem?_cons_succ, List.getElem?_cons_zero, Option.some.injEq] at ho; subst ho; (try dsimp only at hW); skip; go_simp; try rfl)
              try simp only [Act.put, List.setIfInBounds_toArray, List.set_cons_zero, List.set_cons_succ]
              refine wpAnyH_done (by kernel_rfl) ?_ _
              refine NoPanic.normal ?_
              have v0 : vS.rd (wd.alloc (.cells (vS.v z) 63)) ⟨wd.heap.size, 0, none⟩ = some z := Shp.rd_blk (Blk.new _ _ _)
              have v1 := nd_rd (FN.out _ (Nu.of_below s11))
              have v2 : wo.heap.size < (wd.alloc (.cells (vS.v z) 63)).heap.size := (NF.out _ s11).2
              have v3 : wd.heap.size < (wd.alloc (.cells (vS.v z) 63)).heap.size := by simp
              go_wp2_with (go_at_call 112; (with_reducible refine (CP.out _ s11).mono ?_); rintro e w5 ⟨rfl, b5, n5⟩; have N5 := Lib.hid n5; have B5 := Lib.hid b5; clear n5 b5)
              go_roundw
              case rel => exact ⟨j + 1, _, by omega, by go_num, HX, Lib.hid (by rw [← List.append_assoc]; exact B5.out), Lib.hid (HN1.out.trans ((Nu.of_below s11).trans N5.out))⟩
              case measure => simp [intOf]; omega
    · obtain rfl : j = n := by omega
      have hall : (vs.map (·.1)).take j = vs.map (·.1) := List.take_of_length_le (by simp [hlen])
      have hTT := HT.out
      rw [hall] at hTT
      have HA := Kept.mk hTT
      clear hall hTT
      go_wp2
      refine bodyPost_ret (v := .int .i64 0) (by simp [results, Tryz.results64, go_sem]) rfl ?_
      rw [HA.out]
      exact ⟨rfl, (fun q e => by injection e with e; rw [← e]; exact HBj.out), HNj.out⟩
end Go.Proofs.YtohhfcfnclafdaaGreatDoor
set_option linter.unusedVariables false
set_option linter.unusedSimpArgs false
set_option maxRecDepth 100000
namespace Go.Proofs.YtohhfcfnclafdaaGreatDoor
open Go.RowKit
attribute [local go_sem ↓] Go.wp_at_zero Go.wp_at_succ Nm.ld_a Nm.ld_n Nm.st_a Nm.st_n Nm.lv_a Nm.lv_n ld_nd lv_nd st_nd bd_nd bs_nd ld_vl lv_vl st_vl
attribute [local go_sem] Nm.run_ld_a Nm.run_ld_n Nm.run_lv_a Nm.run_lv_n Nm.rd_new Nm.rd_old Nm.rd_drew Nm.rd_drewN Nm.st_z run_lvnd run_ldnd run_stnd_new run_bsnd Shp.rd_new Shp.rd_old Shp.rd_drew Shp.rd_drewN run_lvvl run_ldvl run_stvl_new

theorem D.kid_at {ws : List (List Nat)} {ks : List (List D.Nd)} (t : List Nat) (hl : ws.length = ks.length) (ho : D.othT ∈ ws) : ks[D.kix ws t]? = some (D.kid ws ks t) := by
  have h := D.kix_lt t ho
  unfold D.kid
  rw [List.getD_eq_getElem?_getD]
  have : ks[D.kix ws t]? = some (ks[D.kix ws t]'(by omega)) := List.getElem?_eq_getElem _
  unfold D.kix at this
  rw [this]
  unfold D.kix
  rw [this]
  rfl
theorem RnC.most {x : D.Tg} {g b : Nat} {fn : FuncId} {args : Array Value} {w : World} {o : Option (List Nat)} {m m' : Nat} (h : RnC x g b fn args w o m) (hm : m ≤ m') : RnC x g b fn args w o m' := fun W L h1 h2 h3 => h W L h1 h2 (by omega)
set_option maxHeartbeats 8000000 in
theorem place_plu (x : D.Tg) (g b k m c sg kk M : Nat) (f : Nm.D.Nm → Option D.Vl) (A : Option Addr) (t : ByteArray) (nm : Nm.D.Nm) (z : D.Vl) (w : World) (hbl : b ≤ w.heap.size) (hG : Rg b g kk f w) (hz : z.N < 18446744073709551616) (ws : List (List Nat)) (ks : List (List D.Nd)) (cs : List (List Nat × Value)) (hr : RF 2 (fun i => i < b) w A m (ccs cs)) (hmn : m ≤ 1000) (hcw : cs.map (·.1) = ws) (hB8 : D.B8 ws) (hl : ws.length = ks.length) (h1 : ∀ x ∈ cs, ∃ (A : Option Addr) (n c : Nat), x.2 = .slice A n c) (ho : D.othT ∈ ws) (K : List D.Nd → Option (List Nat)) (hk : k = 3) (hc : ∀ t ∈ ws, t ∈ D.catW) (hK : ∀ (j : Nat) (t : List Nat) (u : Value) (q : List D.Nd), cs[j]? = some (t, u) → ks[j]? = some q → RnC x g b 64 #[vr b, u, .int .u64 (z.N : Nat)] w (K q) M) :
    RnC x g b 112 #[vr b, .agg (nS.v ⟨k, t, nm, A, m, c⟩), .agg (vS.v z), .int .u64 (sg : Nat)] w (K (D.kid ws ks (D.catW.getD (D.pof (D.gr x) z.N) []))) M := by
  intro W L hNu hB hsz
  obtain ⟨Y, hY⟩ : ∃ Y : D.Nv, ⟨k, t, nm, A, m, c⟩ = Y := ⟨_, rfl⟩
  have hY1 : Y.k = k := by rw [← hY]
  have hY3 : Value.slice Y.A Y.m Y.c = .slice A m c := by rw [← hY]
  rw [hY]
  clear hY
  have hlt := hB.lt
  obtain ⟨W2, hW2⟩ : ∃ W2, (W.alloc (.cells (nS.v Y) 116)).alloc (.cells (vS.v z) 63) = W2 := ⟨_, rfl⟩
  have sB : Below W.heap.size W W2 := by rw [← hW2]; exact ((Below.refl _ _).alloc (Nat.le_refl _) _).alloc (by simp) _
  have hG2 : Blk W2 W.heap.size 116 (nS.v Y) := by rw [← hW2]; exact (Blk.new _ _ _).on (below_alloc_ _ _)
  have hV2 : Blk W2 (W.heap.size + 1) 63 (vS.v z) := by rw [← hW2]; have := Blk.new (W.alloc (.cells (nS.v Y) 116)) 63 (vS.v z); simpa using this
  have hB2 : Rn x g b W2 L := hB.on sB
  have hN2 : Nu b W W2 := Nu.of_below sB
  have FF : Hid (∀ W', Nu b W2 W' → W'.cell? ⟨W.heap.size, 0, none⟩ = some (.int .i64 (k : Nat)) ∧ W'.cell? ⟨W.heap.size, 14, none⟩ = some (.slice A m c) ∧ W.heap.size < W'.heap.size ∧ VF W' (W.heap.size + 1) z) := Lib.hid fun W' h => by
    have h1 := h.keep _ _ _ (by omega) (by decide) hG2
    have h2 := h.keep _ _ _ (by omega) (by decide) hV2
    have q := nf_blk h1
    have q1 := q.k; have q2 := q.c
    simp only [Nat.zero_add] at q1 q2
    rw [hY1] at q1; rw [hY3] at q2
    exact ⟨q1, q2, h1.lt, vf_blk h2⟩
  obtain ⟨g0, g1, g2, gv⟩ := FF.out W2 (Nu.refl _ _)
  have g3 := gv.N; have g4 := gv.t; have g5 := gv.l
  have HB2 := Lib.hid hB2
  have HN2 := Lib.hid hN2
  have HNW := Lib.hid (hNu.trans hN2)
  have HGW := Lib.hid (fun W' (h : Nu b W2 W') => hG.out W' ((hNu.trans hN2).trans h))
  have i3 : ((k : Int) == 3) = true := by simp; omega
  have hq := D.kid_at (D.catW.getD (D.pof (D.gr x) z.N) []) hl ho
  subst hcw
  have HR := Lib.hid (fun W' (h : Nu b W2 W') => (Nu.row (Nu.row hr (hNu.trans hN2)) h).row)
  have CA := Lib.hid (fun W' (h : Below W2.heap.size W2 W') => asked_any x g b z.N m c A cs W' L (hB2.on h) ((hG.out W' ((hNu.trans hN2).trans (Nu.of_below h))).1) ((Nu.row (Nu.row hr (hNu.trans hN2)) (Nu.of_below h)).row) hB8 h1 (by omega) hc ho)
  have CM := Lib.hid (fun (t : List Nat) (v : Value) (hj : cs[D.kix (cs.map (·.1)) (D.catW.getD (D.pof (D.gr x) z.N) [])]? = some (t, v)) W' (h : Below W2.heap.size W2 W') => hK _ t v _ hj hq W' L ((hNu.trans hN2).trans (Nu.of_below h)) (hB2.on h) hsz)
  obtain ⟨o, hoo⟩ : ∃ o, K (D.kid (cs.map (·.1)) ks (D.catW.getD (D.pof (D.gr x) z.N) [])) = o := ⟨_, rfl⟩
  rw [hoo] at CM ⊢
  have HW2 := Kept.mk hW2
  clear hNu hB hG hz hr hmn hB8 hl h1 ho hK hc hq hoo hk hY1 hY3 sB hG2 hV2 hB2 hN2 gv
  subst hW2
  go_enter Tryz.func112, Tryz.ntmps112
  go_wp2_with fail
  obtain ⟨W2, hW2⟩ : ∃ W2, ((W.alloc (.cells (nS.v Y) 116)).alloc (.cells (vS.v z) 63)) = W2 := ⟨_, rfl⟩
  rw [hW2] at HB2 HN2 HNW HGW FF HR CA CM ⊢
  refine wp_region_noPanic ?_
  refine wp_region_held_drew (S := fun W' => Nu b W2 W') (by kernel_rfl) (Nu.of_below ((Below.refl _ _).drew)) (fun _ => ?_)
  obtain ⟨wd, hwd⟩ : ∃ wd, W2.drew = wd := ⟨_, rfl⟩
  have bd : Below W2.heap.size W2 wd := by rw [← hwd]; exact (Below.refl _ _).drew
  have sd : Nu b W2 wd := Nu.of_below bd
  rw [hwd]
  clear hwd
  refine takeS 0 (some 17) ?vp0 (by kernel_rfl) (by kernel_rfl) (by kernel_rfl) (by kernel_rfl) (fun _ _ _ h => h) (by rfl) ?hyp0 sd ?restp0
  case hyp0 => (intro o ho W hW; simp only [List.getElem?_toArray, List.getElem?_cons_succ, List.getElem?_cons_zero, Option.some.injEq] at ho; subst ho; (try dsimp only at hW); obtain ⟨q0, q1, q2, qv⟩ := FF.out _ hW; have q3 := qv.N; have q4 := qv.t; have q5 := qv.l; go_simp; try rfl)
  try simp only [Act.put, List.setIfInBounds_toArray, List.set_cons_zero, List.set_cons_succ]
  refine takeS 1 (some 18) ?vp1 (by kernel_rfl) (by kernel_rfl) (by kernel_rfl) (by kernel_rfl) (fun _ _ _ h => h) (by rfl) ?hyp1 sd ?restp1
  case hyp1 => (intro o ho W hW; simp only [List.getElem?_toArray, List.getElem?_cons_succ, List.getElem?_cons_zero, Option.some.injEq] at ho; subst ho; (try dsimp only at hW); obtain ⟨q0, q1, q2, qv⟩ := FF.out _ hW; have q3 := qv.N; have q4 := qv.t; have q5 := qv.l; go_simp; try rfl)
  try simp only [Act.put, List.setIfInBounds_toArray, List.set_cons_zero, List.set_cons_succ]
  refine takeS 2 (some 19) ?vp2 (by kernel_rfl) (by kernel_rfl) (by kernel_rfl) (by kernel_rfl) (fun _ _ _ h => h) (by rfl) ?hyp2 sd ?restp2
  case hyp2 => (intro o ho W hW; simp only [List.getElem?_toArray, List.getElem?_cons_succ, List.getElem?_cons_zero, Option.some.injEq] at ho; subst ho; (try dsimp only at hW); obtain ⟨q0, q1, q2, qv⟩ := FF.out _ hW; have q3 := qv.N; have q4 := qv.t; have q5 := qv.l; go_simp; try rfl)
  try simp only [Act.put, List.setIfInBounds_toArray, List.set_cons_zero, List.set_cons_succ]
  refine takeS 3 (some 20) ?vp3 (by kernel_rfl) (by kernel_rfl) (by kernel_rfl) (by kernel_rfl) (fun _ _ _ h => h) (by rfl) ?hyp3 sd ?restp3
  case hyp3 => (intro o ho W hW; simp only [List.getElem?_toArray, List.getElem?_cons_succ, List.getElem?_cons_zero, Option.some.injEq] at ho; subst ho; (try dsimp only at hW); obtain ⟨q0, q1, q2, qv⟩ := FF.out _ hW; have q3 := qv.N; have q4 := qv.t; have q5 := qv.l; go_simp; try rfl)
  try simp only [Act.put, List.setIfInBounds_toArray, List.set_cons_zero, List.set_cons_succ]
  refine takeS 4 (some 21) ?vp4 (by kernel_rfl) (by kernel_rfl) (by kernel_rfl) (by kernel_rfl) (fun _ _ _ h => h) (by rfl) ?hyp4 sd ?restp4
  case hyp4 => (intro o ho W hW; simp only [List.getElem?_toArray, List.getElem?_cons_succ, List.getElem?_cons_zero, Option.some.injEq] at ho; subst ho; (try dsimp only at hW); obtain ⟨q0, q1, q2, qv⟩ := FF.out _ hW; have q3 := qv.N; have q4 := qv.t; have q5 := qv.l; go_simp; try rfl)
  try simp only [Act.put, List.setIfInBounds_toArray, List.set_cons_zero, List.set_cons_succ]
  refine takeS 5 (some 22) ?vp5 (by kernel_rfl) (by kernel_rfl) (by kernel_rfl) (by kernel_rfl) (fun _ _ _ h => h) (by rfl) ?hyp5 sd ?restp5
  case hyp5 => (intro o ho W hW; simp only [List.getElem?_toArray, List.getElem?_cons_succ, List.getElem?_cons_zero, Option.some.injEq] at ho; subst ho; (try dsimp only at hW); obtain ⟨q0, q1, q2, qv⟩ := FF.out _ hW; have q3 := qv.N; have q4 := qv.t; have q5 := qv.l; go_simp; try rfl)
  try simp only [Act.put, List.setIfInBounds_toArray, List.set_cons_zero, List.set_cons_succ]
  refine takeS 7 (some 24) ?vp7 (by kernel_rfl) (by kernel_rfl) (by kernel_rfl) (by kernel_rfl) (fun _ _ _ h => h) (by rfl) ?hyp7 sd ?restp7
  case hyp7 => (intro o ho W hW; simp only [List.getElem?_toArray, List.getElem?_cons_succ, List.getElem?_cons_zero, Option.some.injEq] at ho; subst ho; (try dsimp only at hW); obtain ⟨q0, q1, q2, qv⟩ := FF.out _ hW; have q3 := qv.N; have q4 := qv.t; have q5 := qv.l; go_simp; try rfl)
  try simp only [Act.put, List.setIfInBounds_toArray, List.set_cons_zero, List.set_cons_succ]
  refine takeS 8 (some 25) ?vp8 (by kernel_rfl) (by kernel_rfl) (by kernel_rfl) (by kernel_rfl) (fun _ _ _ h => h) (by rfl) ?hyp8 sd ?restp8
  case hyp8 => (intro o ho W hW; simp only [List.getElem?_toArray, List.getElem?_cons_succ, List.getElem?_cons_zero, Option.some.injEq] at ho; subst ho; (try dsimp only at hW); obtain ⟨q0, q1, q2, qv⟩ := FF.out _ hW; have q3 := qv.N; have q4 := qv.t; have q5 := qv.l; go_simp; try rfl)
  try simp only [Act.put, List.setIfInBounds_toArray, List.set_cons_zero, List.set_cons_succ]
  refine nextS 6 (by kernel_rfl) (by rfl) (fun o ho K hK => ?_)
  simp only [List.getElem?_toArray, List.getElem?_cons_succ, List.getElem?_cons_zero, Option.some.injEq] at ho; subst ho
  go_simp
  (go_at_call 156; (with_reducible refine (CA.out _ bd).mono ?_); rintro e wa ⟨⟨ta, va, ja, rfl⟩, ba⟩)
  have bA : Below W2.heap.size W2 wa := bd.trans (ba.mono bd.size)
  have sa : Nu b W2 wa := Nu.of_below bA
  refine hK.out _ _ sa (fun _ => ?_)
  clear hK K
  try simp only [Act.put, List.setIfInBounds_toArray, List.set_cons_zero, List.set_cons_succ]
  refine nextS 9 (by kernel_rfl) (by rfl) (fun o ho K hK => ?_)
  simp only [List.getElem?_toArray, List.getElem?_cons_succ, List.getElem?_cons_zero, Option.some.injEq] at ho; subst ho
  go_simp
  (go_at_call 64; (with_reducible refine (CM.out ta va ja _ bA).mono ?_); rintro e wm ⟨rfl, rm, nm⟩)
  have sm : Nu b W2 wm := sa.trans nm
  refine hK.out _ _ sm (fun _ => ?_)
  clear hK K
  try simp only [Act.put, List.setIfInBounds_toArray, List.set_cons_zero, List.set_cons_succ]
  refine takeS 10 (some 8) ?vp10 (by kernel_rfl) (by kernel_rfl) (by kernel_rfl) (by kernel_rfl) (fun _ _ _ h => h) (by rfl) ?hyp10 sm ?restp10
  case hyp10 => (intro o ho W hW; simp only [List.getElem?_toArray, List.getElem?_cons_succ, List.getElem?_cons_zero, Option.some.injEq] at ho; subst ho; (try dsimp only at hW); skip; go_simp; try rfl)
  try simp only [Act.put, List.setIfInBounds_toArray, List.set_cons_zero, List.set_cons_succ]
  refine wpAnyH_done (by kernel_rfl) ?_ _
  refine NoPanic.normal ?_
  go_wp2_with fail
  refine bodyPost_ret (v := .int .i64 (D.erO o)) (by simp [results, Tryz.results112, go_sem]) rfl ?_
  exact ⟨rfl, rm, HN2.out.trans sm⟩
set_option maxHeartbeats 8000000 in
theorem place_sel (x : D.Tg) (g b k m c sg kk M : Nat) (f : Nm.D.Nm → Option D.Vl) (A : Option Addr) (t : ByteArray) (nm : Nm.D.Nm) (z : D.Vl) (w : World) (hbl : b ≤ w.heap.size) (hG : Rg b g kk f w) (hz : z.N < 18446744073709551616) (ws : List (List Nat)) (ks : List (List D.Nd)) (cs : List (List Nat × Value)) (hr : RF 2 (fun i => i < b) w A m (ccs cs)) (hmn : m ≤ 1000) (hcw : cs.map (·.1) = ws) (hB8 : D.B8 ws) (hl : ws.length = ks.length) (h1 : ∀ x ∈ cs, ∃ (A : Option Addr) (n c : Nat), x.2 = .slice A n c) (ho : D.othT ∈ ws) (K : List D.Nd → Option (List Nat)) (hk : k = 4) (hK : ∀ (j : Nat) (t : List Nat) (u : Value) (q : List D.Nd), cs[j]? = some (t, u) → ks[j]? = some q → RnC x g b 64 #[vr b, u, .int .u64 (sg : Nat)] w (K q) M) :
    RnC x g b 112 #[vr b, .agg (nS.v ⟨k, t, nm, A, m, c⟩), .agg (vS.v z), .int .u64 (sg : Nat)] w (K (D.kid ws ks (D.ns z.t))) M := by
  intro W L hNu hB hsz
  obtain ⟨Y, hY⟩ : ∃ Y : D.Nv, ⟨k, t, nm, A, m, c⟩ = Y := ⟨_, rfl⟩
  have hY1 : Y.k = k := by rw [← hY]
  have hY3 : Value.slice Y.A Y.m Y.c = .slice A m c := by rw [← hY]
  rw [hY]
  clear hY
  have hlt := hB.lt
  obtain ⟨W2, hW2⟩ : ∃ W2, (W.alloc (.cells (nS.v Y) 116)).alloc (.cells (vS.v z) 63) = W2 := ⟨_, rfl⟩
  have sB : Below W.heap.size W W2 := by rw [← hW2]; exact ((Below.refl _ _).alloc (Nat.le_refl _) _).alloc (by simp) _
  have hG2 : Blk W2 W.heap.size 116 (nS.v Y) := by rw [← hW2]; exact (Blk.new _ _ _).on (below_alloc_ _ _)
  have hV2 : Blk W2 (W.heap.size + 1) 63 (vS.v z) := by rw [← hW2]; have := Blk.new (W.alloc (.cells (nS.v Y) 116)) 63 (vS.v z); simpa using this
  have hB2 : Rn x g b W2 L := hB.on sB
  have hN2 : Nu b W W2 := Nu.of_below sB
  have FF : Hid (∀ W', Nu b W2 W' → W'.cell? ⟨W.heap.size, 0, none⟩ = some (.int .i64 (k : Nat)) ∧ W'.cell? ⟨W.heap.size, 14, none⟩ = some (.slice A m c) ∧ W.heap.size < W'.heap.size ∧ VF W' (W.heap.size + 1) z) := Lib.hid fun W' h => by
    have h1 := h.keep _ _ _ (by omega) (by decide) hG2
    have h2 := h.keep _ _ _ (by omega) (by decide) hV2
    have q := nf_blk h1
    have q1 := q.k; have q2 := q.c
    simp only [Nat.zero_add] at q1 q2
    rw [hY1] at q1; rw [hY3] at q2
    exact ⟨q1, q2, h1.lt, vf_blk h2⟩
  obtain ⟨g0, g1, g2, gv⟩ := FF.out W2 (Nu.refl _ _)
  have g3 := gv.N; have g4 := gv.t; have g5 := gv.l
  have HB2 := Lib.hid hB2
  have HN2 := Lib.hid hN2
  have HNW := Lib.hid (hNu.trans hN2)
  have HGW := Lib.hid (fun W' (h : Nu b W2 W') => hG.out W' ((hNu.trans hN2).trans h))
  have i3 : ((k : Int) == 3) = false := by simp; omega
  have i4 : ((k : Int) == 4) = true := by simp; omega
  have hq := D.kid_at (D.ns z.t) hl ho
  subst hcw
  have CA := Lib.hid (fun W' (h : Below W2.heap.size W2 W') => chosen_any A m c cs z.t W' ((Nu.row (Nu.row hr (hNu.trans hN2)) (Nu.of_below h)).row) hB8 h1 (by omega) ho)
  have CM := Lib.hid (fun (t : List Nat) (v : Value) (hj : cs[D.kix (cs.map (·.1)) (D.ns z.t)]? = some (t, v)) W' (h : Below W2.heap.size W2 W') => hK _ t v _ hj hq W' L ((hNu.trans hN2).trans (Nu.of_below h)) (hB2.on h) hsz)
  obtain ⟨o, hoo⟩ : ∃ o, K (D.kid (cs.map (·.1)) ks (D.ns z.t)) = o := ⟨_, rfl⟩
  rw [hoo] at CM ⊢
  have HBR := Lib.hid (Below.refl W2.heap.size W2)
  have HW2 := Kept.mk hW2
  clear hNu hB hG hz hr hmn hB8 hl h1 ho hK hq hoo hk hY1 hY3 sB hG2 hV2 hB2 hN2 gv
  subst hW2
  go_enter Tryz.func112, Tryz.ntmps112
  go_wp2_with (first
    | (go_at_call 157; (with_reducible refine (CA.out _ HBR.out).mono ?_); rintro e wa ⟨⟨ta, va, ja, rfl⟩, ba⟩; have BA := Lib.hid ba; have JA := Kept.mk ja; clear ba ja)
    | (go_at_call 64; (with_reducible refine (CM.out ta va JA.out _ BA.out).mono ?_); rintro e wm ⟨rfl, rm, nm⟩; have RM := Lib.hid rm; have NM := Lib.hid nm; clear rm nm))
  refine bodyPost_ret (v := .int .i64 (D.erO o)) (by simp [results, Tryz.results112, go_sem]) rfl ?_
  exact ⟨rfl, RM.out, HN2.out.trans ((Nu.of_below BA.out).trans NM.out)⟩
set_option maxHeartbeats 8000000 in
theorem place_txt (x : D.Tg) (g b k m c sg kk M : Nat) (f : Nm.D.Nm → Option D.Vl) (A : Option Addr) (t : ByteArray) (nm : Nm.D.Nm) (z : D.Vl) (w : World) (hbl : b ≤ w.heap.size) (hG : Rg b g kk f w) (hz : z.N < 18446744073709551616) (hk : k = 1) (ht : D.ns z.t ≠ []) (hM : (D.ns z.t).length ≤ M) :
    RnC x g b 112 #[vr b, .agg (nS.v ⟨k, t, nm, A, m, c⟩), .agg (vS.v z), .int .u64 (sg : Nat)] w (some (D.ns z.t)) M := by
  intro W L hNu hB hsz
  obtain ⟨Y, hY⟩ : ∃ Y : D.Nv, ⟨k, t, nm, A, m, c⟩ = Y := ⟨_, rfl⟩
  have hY1 : Y.k = k := by rw [← hY]
  have hY3 : Value.slice Y.A Y.m Y.c = .slice A m c := by rw [← hY]
  rw [hY]
  clear hY
  have hlt := hB.lt
  obtain ⟨W2, hW2⟩ : ∃ W2, (W.alloc (.cells (nS.v Y) 116)).alloc (.cells (vS.v z) 63) = W2 := ⟨_, rfl⟩
  have sB : Below W.heap.size W W2 := by rw [← hW2]; exact ((Below.refl _ _).alloc (Nat.le_refl _) _).alloc (by simp) _
  have hG2 : Blk W2 W.heap.size 116 (nS.v Y) := by rw [← hW2]; exact (Blk.new _ _ _).on (below_alloc_ _ _)
  have hV2 : Blk W2 (W.heap.size + 1) 63 (vS.v z) := by rw [← hW2]; have := Blk.new (W.alloc (.cells (nS.v Y) 116)) 63 (vS.v z); simpa using this
  have hB2 : Rn x g b W2 L := hB.on sB
  have hN2 : Nu b W W2 := Nu.of_below sB
  have FF : Hid (∀ W', Nu b W2 W' → W'.cell? ⟨W.heap.size, 0, none⟩ = some (.int .i64 (k : Nat)) ∧ W'.cell? ⟨W.heap.size, 14, none⟩ = some (.slice A m c) ∧ W.heap.size < W'.heap.size ∧ VF W' (W.heap.size + 1) z) := Lib.hid fun W' h => by
    have h1 := h.keep _ _ _ (by omega) (by decide) hG2
    have h2 := h.keep _ _ _ (by omega) (by decide) hV2
    have q := nf_blk h1
    have q1 := q.k; have q2 := q.c
    simp only [Nat.zero_add] at q1 q2
    rw [hY1] at q1; rw [hY3] at q2
    exact ⟨q1, q2, h1.lt, vf_blk h2⟩
  obtain ⟨g0, g1, g2, gv⟩ := FF.out W2 (Nu.refl _ _)
  have g3 := gv.N; have g4 := gv.t; have g5 := gv.l
  have HB2 := Lib.hid hB2
  have HN2 := Lib.hid hN2
  have HNW := Lib.hid (hNu.trans hN2)
  have HGW := Lib.hid (fun W' (h : Nu b W2 W') => hG.out W' ((hNu.trans hN2).trans h))
  have i3 : ((k : Int) == 3) = false := by simp; omega
  have i4 : ((k : Int) == 4) = false := by simp; omega
  have i1 : ((k : Int) == 1) = true := by simp; omega
  have it : (z.t.toList == []) = false := by
    rw [ByteArray.toList_eq]
    cases h : z.t.data.toList with
    | nil => exact absurd (by rw [D.ns, h]; rfl) ht
    | cons a l => rfl
  have CW := Lib.hid (fun W' (hW : Rn x g b W' L) => writeS_any (rr_bt x g) z.t hW ht (by rw [size_ns]; omega))
  have HW2 := Kept.mk hW2
  clear hNu hB hG hz hk hY1 hY3 sB hG2 hV2 hB2 hN2 gv ht hM
  subst hW2
  go_enter Tryz.func112, Tryz.ntmps112
  go_wp2_with fail
  obtain ⟨W2, hW2⟩ : ∃ W2, ((W.alloc (.cells (nS.v Y) 116)).alloc (.cells (vS.v z) 63)) = W2 := ⟨_, rfl⟩
  rw [hW2] at HB2 HN2 HNW HGW FF ⊢
  refine wp_region_noPanic ?_
  refine wp_region_held_drew (S := fun W' => Nu b W2 W' ∧ b < W'.heap.size) (by kernel_rfl) ⟨Nu.of_below ((Below.refl _ _).drew), HB2.out.lt⟩ (fun _ => ?_)
  obtain ⟨wd, hwd⟩ : ∃ wd, W2.drew = wd := ⟨_, rfl⟩
  have bd : Below W2.heap.size W2 wd := by rw [← hwd]; exact (Below.refl _ _).drew
  have sd : Nu b W2 wd ∧ b < wd.heap.size := ⟨Nu.of_below bd, Nat.lt_of_lt_of_le HB2.out.lt bd.size⟩
  rw [hwd]
  clear hwd
  refine takeS 0 (some 48) ?vt0 (by kernel_rfl) (by kernel_rfl) (by kernel_rfl) (by kernel_rfl) (fun _ _ _ h => h) (by rfl) ?hyt0 sd ?restt0
  case hyt0 => (intro o ho W hW; simp only [List.getElem?_toArray, List.getElem?_cons_succ, List.getElem?_cons_zero, Option.some.injEq] at ho; subst ho; (try dsimp only at hW); obtain ⟨q0, q1, q2, qv⟩ := FF.out _ hW.1; have q3 := qv.N; have q4 := qv.t; have q5 := qv.l; have q6 := hW.2; go_simp; try rfl)
  try simp only [Act.put, List.setIfInBounds_toArray, List.set_cons_zero, List.set_cons_succ]
  refine takeS 1 (some 49) ?vt1 (by kernel_rfl) (by kernel_rfl) (by kernel_rfl) (by kernel_rfl) (fun _ _ _ h => h) (by rfl) ?hyt1 sd ?restt1
  case hyt1 => (intro o ho W hW; simp only [List.getElem?_toArray, List.getElem?_cons_succ, List.getElem?_cons_zero, Option.some.injEq] at ho; subst ho; (try dsimp only at hW); obtain ⟨q0, q1, q2, qv⟩ := FF.out _ hW.1; have q3 := qv.N; have q4 := qv.t; have q5 := qv.l; have q6 := hW.2; go_simp; try rfl)
  try simp only [Act.put, List.setIfInBounds_toArray, List.set_cons_zero, List.set_cons_succ]
  refine takeS 2 (some 50) ?vt2 (by kernel_rfl) (by kernel_rfl) (by kernel_rfl) (by kernel_rfl) (fun _ _ _ h => h) (by rfl) ?hyt2 sd ?restt2
  case hyt2 => (intro o ho W hW; simp only [List.getElem?_toArray, List.getElem?_cons_succ, List.getElem?_cons_zero, Option.some.injEq] at ho; subst ho; (try dsimp only at hW); obtain ⟨q0, q1, q2, qv⟩ := FF.out _ hW.1; have q3 := qv.N; have q4 := qv.t; have q5 := qv.l; have q6 := hW.2; go_simp; try rfl)
  try simp only [Act.put, List.setIfInBounds_toArray, List.set_cons_zero, List.set_cons_succ]
  refine takeS 3 (some 51) ?vt3 (by kernel_rfl) (by kernel_rfl) (by kernel_rfl) (by kernel_rfl) (fun _ _ _ h => h) (by rfl) ?hyt3 sd ?restt3
  case hyt3 => (intro o ho W hW; simp only [List.getElem?_toArray, List.getElem?_cons_succ, List.getElem?_cons_zero, Option.some.injEq] at ho; subst ho; (try dsimp only at hW); obtain ⟨q0, q1, q2, qv⟩ := FF.out _ hW.1; have q3 := qv.N; have q4 := qv.t; have q5 := qv.l; have q6 := hW.2; go_simp; try rfl)
  try simp only [Act.put, List.setIfInBounds_toArray, List.set_cons_zero, List.set_cons_succ]
  refine takeS 4 (some 52) ?vt4 (by kernel_rfl) (by kernel_rfl) (by kernel_rfl) (by kernel_rfl) (fun _ _ _ h => h) (by rfl) ?hyt4 sd ?restt4
  case hyt4 => (intro o ho W hW; simp only [List.getElem?_toArray, List.getElem?_cons_succ, List.getElem?_cons_zero, Option.some.injEq] at ho; subst ho; (try dsimp only at hW); obtain ⟨q0, q1, q2, qv⟩ := FF.out _ hW.1; have q3 := qv.N; have q4 := qv.t; have q5 := qv.l; have q6 := hW.2; go_simp; try rfl)
  try simp only [Act.put, List.setIfInBounds_toArray, List.set_cons_zero, List.set_cons_succ]
  refine nextS 5 (by kernel_rfl) (by rfl) (fun o ho K hK => ?_)
  simp only [List.getElem?_toArray, List.getElem?_cons_succ, List.getElem?_cons_zero, Option.some.injEq] at ho; subst ho
  go_simp
  (go_at_call 86; (with_reducible refine (CW.out _ (HB2.out.on bd)).mono ?_); rintro e ww ⟨rfl, bw, nw⟩)
  have sw : Nu b W2 ww ∧ b < ww.heap.size := ⟨sd.1.trans nw, bw.lt⟩
  have HBw := Lib.hid bw
  clear bw nw
  refine hK.out _ _ sw (fun _ => ?_)
  clear hK K
  try simp only [Act.put, List.setIfInBounds_toArray, List.set_cons_zero, List.set_cons_succ]
  refine wpAnyH_done (by kernel_rfl) ?_ _
  refine NoPanic.normal ?_
  go_wp2_with fail
  refine bodyPost_ret (v := .int .i64 0) (by simp [results, Tryz.results112, go_sem]) rfl ?_
  exact ⟨rfl, (fun q e => by injection e with e; rw [← e]; exact HBw.out), HN2.out.trans sw.1⟩
set_option maxHeartbeats 8000000 in
theorem place_num (x : D.Tg) (g b k m c sg kk M : Nat) (f : Nm.D.Nm → Option D.Vl) (A : Option Addr) (t : ByteArray) (nm : Nm.D.Nm) (z : D.Vl) (w : World) (hbl : b ≤ w.heap.size) (hG : Rg b g kk f w) (hz : z.N < 18446744073709551616) (hk : k = 1 ∧ D.ns z.t = [] ∨ k = 2) (hM : 20 ≤ M) :
    RnC x g b 112 #[vr b, .agg (nS.v ⟨k, t, nm, A, m, c⟩), .agg (vS.v z), .int .u64 (sg : Nat)] w (some (D.dg z.N)) M := by
  intro W L hNu hB hsz
  obtain ⟨Y, hY⟩ : ∃ Y : D.Nv, ⟨k, t, nm, A, m, c⟩ = Y := ⟨_, rfl⟩
  have hY1 : Y.k = k := by rw [← hY]
  have hY3 : Value.slice Y.A Y.m Y.c = .slice A m c := by rw [← hY]
  rw [hY]
  clear hY
  have hlt := hB.lt
  obtain ⟨W2, hW2⟩ : ∃ W2, (W.alloc (.cells (nS.v Y) 116)).alloc (.cells (vS.v z) 63) = W2 := ⟨_, rfl⟩
  have sB : Below W.heap.size W W2 := by rw [← hW2]; exact ((Below.refl _ _).alloc (Nat.le_refl _) _).alloc (by simp) _
  have hG2 : Blk W2 W.heap.size 116 (nS.v Y) := by rw [← hW2]; exact (Blk.new _ _ _).on (below_alloc_ _ _)
  have hV2 : Blk W2 (W.heap.size + 1) 63 (vS.v z) := by rw [← hW2]; have := Blk.new (W.alloc (.cells (nS.v Y) 116)) 63 (vS.v z); simpa using this
  have hB2 : Rn x g b W2 L := hB.on sB
  have hN2 : Nu b W W2 := Nu.of_below sB
  have FF : Hid (∀ W', Nu b W2 W' → W'.cell? ⟨W.heap.size, 0, none⟩ = some (.int .i64 (k : Nat)) ∧ W'.cell? ⟨W.heap.size, 14, none⟩ = some (.slice A m c) ∧ W.heap.size < W'.heap.size ∧ VF W' (W.heap.size + 1) z) := Lib.hid fun W' h => by
    have h1 := h.keep _ _ _ (by omega) (by decide) hG2
    have h2 := h.keep _ _ _ (by omega) (by decide) hV2
    have q := nf_blk h1
    have q1 := q.k; have q2 := q.c
    simp only [Nat.zero_add] at q1 q2
    rw [hY1] at q1; rw [hY3] at q2
    exact ⟨q1, q2, h1.lt, vf_blk h2⟩
  obtain ⟨g0, g1, g2, gv⟩ := FF.out W2 (Nu.refl _ _)
  have g3 := gv.N; have g4 := gv.t; have g5 := gv.l
  have HB2 := Lib.hid hB2
  have HN2 := Lib.hid hN2
  have HNW := Lib.hid (hNu.trans hN2)
  have HGW := Lib.hid (fun W' (h : Nu b W2 W') => hG.out W' ((hNu.trans hN2).trans h))
  have i3 : ((k : Int) == 3) = false := by simp; omega
  have i4 : ((k : Int) == 4) = false := by simp; omega
  have CW := Lib.hid (fun (_ : True) => number_any x g b z.N W2 L hz hB2 ((hG.out _ (hNu.trans hN2)).2.1) (by omega))
  have HW2 := Kept.mk hW2
  clear hNu hB hG hz hY1 hY3 sB hG2 hV2 hB2 hN2 gv hM
  subst hW2
  rcases hk with ⟨hk, ht⟩ | hk
  · have i1 : ((k : Int) == 1) = true := by simp; omega
    have it : (z.t.toList == []) = true := by
      rw [ByteArray.toList_eq]
      cases h : z.t.data.toList with
      | nil => rfl
      | cons a l => exact absurd ht (by rw [D.ns, h]; simp)
    clear hk ht
    go_enter Tryz.func112, Tryz.ntmps112
    go_wp2_with (go_at_call 111; (with_reducible refine (CW.out trivial).mono ?_); rintro e w2 ⟨rfl, hb2, hn2⟩; have B2 := Lib.hid hb2; have N2 := Lib.hid hn2; clear hb2 hn2)
    refine bodyPost_ret (v := .int .i64 0) (by simp [results, Tryz.results112, go_sem]) rfl ?_
    exact ⟨rfl, (fun q e => by injection e with e; rw [← e]; exact B2.out), HN2.out.trans N2.out⟩
  · have i1 : ((k : Int) == 1) = false := by simp; omega
    clear hk
    go_enter Tryz.func112, Tryz.ntmps112
    go_wp2_with (go_at_call 111; (with_reducible refine (CW.out trivial).mono ?_); rintro e w2 ⟨rfl, hb2, hn2⟩; have B2 := Lib.hid hb2; have N2 := Lib.hid hn2; clear hb2 hn2)
    refine bodyPost_ret (v := .int .i64 0) (by simp [results, Tryz.results112, go_sem]) rfl ?_
    exact ⟨rfl, (fun q e => by injection e with e; rw [← e]; exact B2.out), HN2.out.trans N2.out⟩
end Go.Proofs.YtohhfcfnclafdaaGreatDoor
set_option linter.unusedVariables false
set_option linter.unusedSimpArgs false
set_option maxRecDepth 100000
namespace Go.Proofs.YtohhfcfnclafdaaGreatDoor
open Go.RowKit

namespace D
theorem okWd_cat : ∀ {a ws : List (List Nat)}, okWd 3 a ws → ∀ t ∈ ws, t ∈ catW
  | _, [], _, t, h => by cases h
  | a, w :: ws, h, t, ht => by
    obtain ⟨_, _, h3, h4⟩ := h
    rcases List.mem_cons.1 ht with rfl | ht
    · unfold lgl at h3
      split at h3
      · cases h3
      · rename_i hn
        exact Classical.byContradiction fun hc => hn (.inl ⟨rfl, hc⟩)
    · exact okWd_cat h4 t ht
/-- Values whose numbers are words, and whose texts are short. -/
def Vok (vf : List Nat → Option (Nat × List Nat)) : Prop := ∀ n a, vf n = some a → a.1 < 18446744073709551616 ∧ a.2.length ≤ 20
theorem rnN_le {g : Nat} {vf : List Nat → Option (Nat × List Nat)} {K : Nat → List Nd → Option (List Nat)} {s : Nat} {ch : Bool} {kids : Bool → List Nd → Prop} {v : Bool} {x : Nd} (hV : Vok vf) (hs : s < 18446744073709551616) (hx : okNd ch kids v x)
    (hK : ∀ s' q, s' < 18446744073709551616 → ch = true → q ∈ x.ks → ∀ a, K s' q = some a → a.length ≤ 20 * (prL q).length) : ∀ a, rnN g vf K s x = some a → a.length ≤ 20 * (prN x).length := by
  intro a ha
  unfold rnN at ha
  rcases hx with ⟨hk, _, _, _, h⟩ | ⟨h, _⟩ | ⟨hk, _, _, _, _⟩ | ⟨hk, hch, ht, hnb, hll, ho, hwd, hkd⟩
  · rw [if_pos hk] at ha
    injection ha with ha
    rw [← ha, prN_txt hk]; omega
  · have hk : x.k = 5 := by rw [h]; rfl
    rw [if_neg (by omega), if_pos hk] at ha
    injection ha with ha
    have h1 := (dg_len s hs).1
    have h2 : (prN x).length = 1 := by rw [h, prN_sign]; rfl
    rw [← ha, h2]
    omega
  · have h1 : 1 ≤ (prN x).length := by
      obtain ⟨k, t, n, ws, ks⟩ := x
      simp only [Nd.k] at hk
      rcases hk with rfl | rfl <;> simp [prN] <;> omega
    rw [if_neg (by omega), if_neg (by omega)] at ha
    cases hv : vf x.n with
    | none => rw [hv] at ha; cases ha
    | some p =>
      obtain ⟨N, T⟩ := p
      rw [hv] at ha
      obtain ⟨h2, h3⟩ := hV _ _ hv
      simp only at ha h2 h3
      rw [if_neg (by omega), if_neg (by omega)] at ha
      have h4 := (dg_len N h2).1
      split at ha
      · injection ha with ha; rw [← ha]; omega
      · injection ha with ha; rw [← ha]; omega
  · rw [if_neg (by omega), if_neg (by omega)] at ha
    cases hv : vf x.n with
    | none => rw [hv] at ha; cases ha
    | some p =>
      obtain ⟨N, T⟩ := p
      rw [hv] at ha
      obtain ⟨h2, h3⟩ := hV _ _ hv
      simp only at ha h2 h3
      have hb : ∀ s' t, s' < 18446744073709551616 → K s' (kid x.ws x.ks t) = some a → a.length ≤ 20 * (prN x).length := fun s' t hs' e => by
        have hq := kid_at t hll ho
        have h1 := hK s' _ hs' hch (List.mem_of_getElem? hq) a e
        have h2 := prC_at hll hq
        have h3 := prN_cas hk
        omega
      split at ha
      · exact hb _ _ h2 ha
      · split at ha
        · exact hb _ _ hs ha
        · rename_i e3 e4
          rcases hk with hk | hk
          · exact absurd hk e3
          · exact absurd hk e4
theorem rnd_le {g : Nat} {vf : List Nat → Option (Nat × List Nat)} (hV : Vok vf) : ∀ (r : Nat) {v : Bool} {s : Nat} {l : List Nd}, s < 18446744073709551616 → Rt r v l → ∀ t, rnd g vf r s l = some t → t.length ≤ 20 * (prL l).length
  | 0, v, s, l, hs, hR => fun t ht => rnL_le (N := rnN g vf (fun _ _ => none) s) (fun x hx => by
      obtain ⟨j, hj, e⟩ := List.mem_iff_getElem.1 hx
      have h1 := (okLs_at hR (show l[j]? = some x by rw [List.getElem?_eq_getElem hj, e])).1
      exact rnN_le hV hs h1 (fun s' q _ h => by cases h)) t ht
  | r + 1, v, s, l, hs, hR => fun t ht => rnL_le (N := rnN g vf (rnd g vf r) s) (fun x hx => by
      obtain ⟨j, hj, e⟩ := List.mem_iff_getElem.1 hx
      have h1 := (okLs_at hR (show l[j]? = some x by rw [List.getElem?_eq_getElem hj, e])).1
      refine rnN_le hV hs h1 (fun s' q hs' _ hq a ha => ?_)
      rcases h1 with ⟨_, _, _, h, _⟩ | ⟨h, _⟩ | ⟨_, _, _, h, _⟩ | ⟨_, _, _, _, _, _, _, h⟩
      · rw [h] at hq; cases hq
      · rw [h] at hq; cases hq
      · rw [h] at hq; cases hq
      · exact rnd_le hV r hs' (h q hq) a ha) t ht
/-- What a map of values answers for a name's bytes. -/
def vfo (f : Nm.D.Nm → Option Vl) (n : List Nat) : Option (Nat × List Nat) := (f (Nm.D.pad (sb n))).map fun z => (z.N, ns z.t)
def Vfk (f : Nm.D.Nm → Option Vl) : Prop := ∀ n z, f n = some z → z.N < 18446744073709551616 ∧ (ns z.t).length ≤ 20
theorem vfo_ok {f : Nm.D.Nm → Option Vl} (h : Vfk f) : Vok (vfo f) := fun n a ha => by
  unfold vfo at ha
  cases hf : f (Nm.D.pad (sb n)) with
  | none => rw [hf] at ha; cases ha
  | some z =>
    rw [hf] at ha
    injection ha with ha
    subst ha
    exact h _ z hf
end D
theorem rend_place (x : D.Tg) (g b kk sg r : Nat) (f : Nm.D.Nm → Option D.Vl) (w : World) (hbl : b ≤ w.heap.size) (hG : Rg b g kk f w) (hsg : sg < 18446744073709551616) (hV : D.Vfk f) (ch : Bool) (kids : Bool → List D.Nd → Prop) (v : Bool) (K : Nat → List D.Nd → Option (List Nat)) (y : D.Nd) (p : D.Sl)
    (hx : D.okNd ch kids v y) (hP : Pel (Pk (fun i => i < b) w r) (fun i => i < b) w y p) (hsz : (D.prN y).length ≤ 1000) (h0 : y.k ≠ 0) (h5 : y.k ≠ 5)
    (hK : ∀ s' u q, s' < 18446744073709551616 → ch = true → q ∈ y.ks → Pk (fun i => i < b) w r u q → (D.prL q).length ≤ (D.prN y).length → RnC x g b 64 #[vr b, u, .int .u64 (s' : Nat)] w (K s' q) (20 * (D.prN y).length)) (hsl : ∀ u q, Pk (fun i => i < b) w r u q → ∃ (A : Option Addr) (n c : Nat), u = .slice A n c) :
    (f (D.pnm y) = none → D.rnN (D.gr x) (D.vfo f) K sg y = none) ∧ ∀ z, f (D.pnm y) = some z → RnC x g b 112 #[vr b, .agg (nS.v (nv y p.A p.m p.c)), .agg (vS.v z), .int .u64 (sg : Nat)] w (D.rnN (D.gr x) (D.vfo f) K sg y) (20 * (D.prN y).length) := by
  have hvf : D.vfo f y.n = (f (D.pnm y)).map fun z => (z.N, D.ns z.t) := rfl
  refine ⟨fun hn => ?_, fun z hz => ?_⟩
  · unfold D.rnN
    rw [if_neg h0, if_neg h5, hvf, hn]
    rfl
  · obtain ⟨hzN, hzt⟩ := hV _ z hz
    have e0 : D.rnN (D.gr x) (D.vfo f) K sg y = if y.k = 3 then K z.N (D.kid y.ws y.ks (D.catW.getD (D.pof (D.gr x) z.N) [])) else if y.k = 4 then K sg (D.kid y.ws y.ks (D.ns z.t)) else if y.k = 1 ∧ D.ns z.t ≠ [] then some (D.ns z.t) else some (D.dg z.N) := by
      unfold D.rnN
      rw [if_neg h0, if_neg h5, hvf, hz]
      rfl
    rw [e0]
    show RnC x g b _ #[vr b, .agg (nS.v ⟨y.k, D.sb y.t, D.pnm y, p.A, p.m, p.c⟩), _, _] w _ _
    rcases hx with ⟨h, _⟩ | ⟨h, _⟩ | ⟨hk, _, _, _, _⟩ | ⟨hk, hch, _, hnb, hll, ho, hwd, hkd⟩
    · exact absurd h h0
    · rw [h] at h5; exact absurd rfl h5
    · have h1 : 1 ≤ (D.prN y).length := by
        obtain ⟨k, t, n, ws, ks⟩ := y
        simp only [D.Nd.k] at hk
        rcases hk with rfl | rfl <;> simp [D.prN] <;> omega
      rw [if_neg (by omega), if_neg (by omega)]
      by_cases ht : y.k = 1 ∧ D.ns z.t ≠ []
      · rw [if_pos ht]
        exact place_txt x g b y.k p.m p.c sg kk _ f p.A _ _ z w hbl hG hzN ht.1 ht.2 (by omega)
      · rw [if_neg ht]
        refine place_num x g b y.k p.m p.c sg kk _ f p.A _ _ z w hbl hG hzN ?_ (by omega)
        rcases hk with hk | hk
        · exact .inl ⟨hk, Classical.byContradiction fun e => ht ⟨hk, e⟩⟩
        · exact .inr hk
    · obtain ⟨hbt, hcap, cs, hrc, hcw, h1c, hcl, hkk⟩ := hP
      have hmn : p.m ≤ 1000 := by
        have h1 := hrc.row.len
        simp only [ccs_len] at h1
        have h2 := D.prC_lenw hll
        have h3 := D.prN_cas hk
        omega
      have hs : ∀ u ∈ cs, ∃ (A : Option Addr) (n c : Nat), u.2 = .slice A n c := fun u hu => by
        obtain ⟨j, hj, e⟩ := List.mem_iff_getElem.1 hu
        have hu' : cs[j]? = some (u.1, u.2) := by rw [List.getElem?_eq_getElem hj, e]
        exact hsl _ _ (hkk j _ _ _ hu' (List.getElem?_eq_getElem (by omega)))
      have hKK : ∀ s', s' < 18446744073709551616 → ∀ (j : Nat) (t : List Nat) (u : Value) (q : List D.Nd), cs[j]? = some (t, u) → y.ks[j]? = some q → RnC x g b 64 #[vr b, u, .int .u64 (s' : Nat)] w (K s' q) (20 * (D.prN y).length) := fun s' hs' j t u q hc hq => by
        have h2 := D.prC_at hll hq
        have h3 := D.prN_cas hk
        exact hK s' u q hs' hch (List.mem_of_getElem? hq) (hkk j t u q hc hq) (by omega)
      by_cases h3 : y.k = 3
      · rw [if_pos h3]
        exact place_plu x g b y.k p.m p.c sg kk _ f p.A _ _ z w hbl hG hzN y.ws y.ks cs hrc hmn hcw hbt.2.2 hll hs ho (K z.N) h3 (D.okWd_cat (h3 ▸ hwd)) (hKK z.N hzN)
      · rw [if_neg h3, if_pos (by omega)]
        exact place_sel x g b y.k p.m p.c sg kk _ f p.A _ _ z w hbl hG hzN y.ws y.ks cs hrc hmn hcw hbt.2.2 hll hs ho (K sg) (by omega) (hKK sg hsg)
theorem pm_slice {F : Nat → Prop} {w : World} {r : Nat} {u : Value} {l : List D.Nd} (h : Pm F w r u l) : ∃ (A : Option Addr) (n c : Nat), u = .slice A n c := by
  obtain ⟨A, n, c, _, e, _⟩ := (Pm_eq F w r _ _).1 h
  exact ⟨A, n, c, e⟩
theorem rend_any (x : D.Tg) (g b kk : Nat) (f : Nm.D.Nm → Option D.Vl) (hV : D.Vfk f) : ∀ (r : Nat) (v : Bool) (sg : Nat) (w : World) (u : Value) (l : List D.Nd), Pm (fun i => i < b) w r u l → D.Rt r v l → (D.prL l).length ≤ 1000 → b ≤ w.heap.size → Rg b g kk f w → sg < 18446744073709551616 →
    RnC x g b 64 #[vr b, u, .int .u64 (sg : Nat)] w (D.rnd (D.gr x) (D.vfo f) r sg l) (20 * (D.prL l).length)
  | 0, v, sg, w, u, l, hP, hR, hsz, hbl, hG, hsg => by
    obtain ⟨A, n, c, vs, rfl, hc, hr, hl, hb⟩ := (Pm_eq _ w 0 _ _).1 hP
    have hn : n ≤ 1000 := by
      have h1 := hr.row.len
      rw [Shp.rcs_len, nvs_len, show nS.n = 15 from rfl] at h1
      have h2 := D.len_le hR
      have h3 : l.length = vs.length := by rw [← hl]; simp
      omega
    show RnC x g b _ _ w (D.rnL _ l) _
    rw [← hl]
    refine message_row x g b n c sg kk f A vs w _ hr hn hbl hsg hG (fun j y p hj hk => ?_) (fun j y p hj hk => ?_) (fun j y p hj => ?_) (fun j y p hj h0 h5 => ?_)
    · have h1 := (D.okLs_at hR (vs_list hl hj)).1
      rcases h1 with ⟨_, _, _, _, h, _⟩ | ⟨h, _⟩ | ⟨h, _⟩ | ⟨h, _⟩
      · exact ⟨h, (hb j y p hj).1.1, by unfold D.rnN; rw [if_pos hk]⟩
      · rw [h] at hk; cases hk
      · omega
      · omega
    · unfold D.rnN; rw [if_neg (by omega), if_pos hk]
    · exact D.rnN_le (D.vfo_ok hV) hsg (D.okLs_at hR (vs_list hl hj)).1 (fun s' q _ h => by cases h)
    · have hx := vs_list hl hj
      have hxs := D.prL_mem (List.mem_of_getElem? hx)
      exact rend_place x g b kk sg 0 f w hbl hG hsg hV false (fun _ _ => False) v _ y p (D.okLs_at hR hx).1 (hb j y p hj) (by omega) h0 h5 (fun s' u q _ h => by cases h) (fun u q h => h.elim)
  | r + 1, v, sg, w, u, l, hP, hR, hsz, hbl, hG, hsg => by
    obtain ⟨A, n, c, vs, rfl, hc, hr, hl, hb⟩ := (Pm_eq _ w (r + 1) _ _).1 hP
    have hn : n ≤ 1000 := by
      have h1 := hr.row.len
      rw [Shp.rcs_len, nvs_len, show nS.n = 15 from rfl] at h1
      have h2 := D.len_le hR
      have h3 : l.length = vs.length := by rw [← hl]; simp
      omega
    show RnC x g b _ _ w (D.rnL _ l) _
    have hl' := hl
    rw [← hl]
    have hkd : ∀ (j : Nat) (y : D.Nd) (p : D.Sl), vs[j]? = some (y, p) → ∀ q ∈ y.ks, D.Rt r (v || y.k == 3) q := fun j y p hj q hq => by
      rcases (D.okLs_at hR (vs_list hl hj)).1 with ⟨_, _, _, h, _⟩ | ⟨h, _⟩ | ⟨_, _, _, h, _⟩ | ⟨_, _, _, _, _, _, _, h⟩
      · rw [h] at hq; cases hq
      · rw [h] at hq; cases hq
      · rw [h] at hq; cases hq
      · exact h q hq
    refine message_row x g b n c sg kk f A vs w _ hr hn hbl hsg hG (fun j y p hj hk => ?_) (fun j y p hj hk => ?_) (fun j y p hj => ?_) (fun j y p hj h0 h5 => ?_)
    · have h1 := (D.okLs_at hR (vs_list hl hj)).1
      rcases h1 with ⟨_, _, _, _, h, _⟩ | ⟨h, _⟩ | ⟨h, _⟩ | ⟨h, _⟩
      · exact ⟨h, (hb j y p hj).1.1, by unfold D.rnN; rw [if_pos hk]⟩
      · rw [h] at hk; cases hk
      · omega
      · omega
    · unfold D.rnN; rw [if_neg (by omega), if_pos hk]
    · exact D.rnN_le (D.vfo_ok hV) hsg (D.okLs_at hR (vs_list hl hj)).1 (fun s' q hs' _ hq a ha => D.rnd_le (D.vfo_ok hV) r hs' (hkd j y p hj q hq) a ha)
    · have hx := vs_list hl hj
      have hxs := D.prL_mem (List.mem_of_getElem? hx)
      have hxz : (D.prL l).length ≤ 1000 := hsz
      refine rend_place x g b kk sg (r + 1) f w hbl hG hsg hV true (D.Rt r) v _ y p (D.okLs_at hR hx).1 (hb j y p hj) (by omega) h0 h5 (fun s' u q hs' _ hq hPq hle => ?_) (fun u q h => pm_slice (show Pm _ w r u q from h))
      exact (rend_any x g b kk f hV r (v || y.k == 3) s' w u q hPq (hkd j y p hj q hq) (by omega) hbl hG hs').most (by omega)
end Go.Proofs.YtohhfcfnclafdaaGreatDoor
