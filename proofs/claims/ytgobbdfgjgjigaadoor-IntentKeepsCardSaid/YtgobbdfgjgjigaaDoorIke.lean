/-
  A key that an owner has is nobody else's: the law.
-/
import Derived.Test.YtgobbdfgjgjigaaDoorIlw
set_option linter.unusedVariables false
set_option linter.unusedSimpArgs false
set_option maxRecDepth 100000
namespace Go.Proofs.YtgobbdfgjgjigaaDoor
open Go.RowKit
theorem conv_1000 (i : Int) (h1 : -9223372036854775808 ≤ i) (h2 : i ≤ 9223372036854775807) : ∃ k : Nat, k < 1000 ∧ IntKind.i64.wrap ((IntKind.u64.wrap i).tmod 1000) = (k : Int) ∧ (IntKind.u64.wrap i).tmod 1000 = (k : Int) := by
  rw [IntKind.wrap_u64, Int.tmod_eq_emod_of_nonneg (by omega)]
  refine ⟨(i % 18446744073709551616 % 1000).toNat, by omega, ?_, by omega⟩
  rw [IntWalk.i64_in _ (by omega)]
  omega
attribute [local go_sem ↓] Go.wp_at_zero Go.wp_at_succ ld_k lv_k st_k eq_k ne_k bd_k Nm.ld_a Nm.ld_n Nm.st_a Nm.st_n Nm.eq_a Nm.eq_n Nm.ne_a Nm.ne_n Nm.lv_a Nm.lv_n ld_a ld_n st_a st_n eq_a eq_n ne_a ne_n lv_a lv_n
attribute [local go_sem] run_ldk run_lvk run_stk run_eqk run_nek run_bdk_z Nm.run_ld_a Nm.run_ld_n Nm.run_st_n Nm.run_eq_a Nm.run_eq_n Nm.run_ne_a Nm.run_ne_n Nm.run_lv_a Nm.run_lv_n Nm.rd_new Nm.rd_old Nm.rd_drew Nm.rd_drewN run_ld_a run_ld_n run_sw_a run_sw_n run_eq_a run_eq_n run_ne_a run_ne_n run_lv_a run_lv_n st_z ne_z eq_z rd_new rd_old rd_drew rd_drewN Shp.rd_new Shp.rd_old Shp.rd_drew Shp.rd_drewN Shp.rd_set Shp.tn_new Shp.tn_old Shp.tn_drew Shp.tn_drewN setRow_alloc run_stn3 run_stt15 bdk1 bdk2 bdk3 bdk4
attribute [local go_sem ↓] bsk_k ld_i lv_i st_i
attribute [local go_sem] run_bsk1 run_bsk2 run_ldi run_lvi run_sti
set_option maxHeartbeats 16000000 in
theorem law_keeps {A1 A2 : Option Addr} {n1 c1 n2 c2 : Nat} {l1 l2 : List D.Ia} {w : World} (hr1 : Shp.Row iS w A1 n1 l1) (hw1 : ∀ r ∈ l1, -9223372036854775808 ≤ r.o ∧ r.o ≤ 9223372036854775807) (hm1 : n1 ≤ 9223372036854775807) (hr2 : Shp.Row iS w A2 n2 l2) (hw2 : ∀ r ∈ l2, -9223372036854775808 ≤ r.o ∧ r.o ≤ 9223372036854775807) (hm2 : n2 ≤ 9223372036854775807)
    (o0 : Int) (h1 : -9223372036854775808 ≤ o0) (h2 : o0 ≤ 9223372036854775807) (k : D.Ky) :
    Calls Tryd.prog 3 #[.slice A1 n1 c1, .slice A2 n2 c2, .int .i64 o0, .agg (kS.v k)] w fun e w' => e = .returned (.bool true) ∧ Below w.heap.size w w' := by
  obtain ⟨g, hg⟩ : ∃ g, w.heap.size = g := ⟨_, rfl⟩
  have b0 := below_alloc_ w (.cells (kS.v k) 30)
  have f0 := Shp.rd_new (S := kS) w w.heap.size 30 k rfl
  obtain ⟨WK, hWK⟩ : ∃ WK, w.alloc (.cells (kS.v k) 30) = WK := ⟨_, rfl⟩
  have zK : WK.heap.size = g + 1 := by rw [← hWK]; simp [hg]
  rw [hWK] at b0 f0
  rw [hg] at b0 f0
  have t0 := tabi_new WK (g + 1) (by omega)
  have b1 := below_alloc_ WK (.cells #[.map none] 33)
  obtain ⟨W0, hW0⟩ : ∃ W0, WK.alloc (.cells #[.map none] 33) = W0 := ⟨_, rfl⟩
  have z0 : W0.heap.size = g + 2 := by rw [← hW0]; simp [zK]
  rw [hW0] at t0 b1
  rw [zK] at t0 b1
  have f1 : kS.rd W0 ⟨g, 0, none⟩ = some k := Shp.rd_on f0 (by rw [zK]; exact b1)
  have bw0 : Below g w W0 := b0.trans (b1.mono (by omega))
  have BW : Hid (∀ W, Below (g + 1) W0 W → Below g w W) := Lib.hid fun W hW => bw0.trans (hW.mono (by omega))
  have FK : Hid (∀ W, Below (g + 1) W0 W → kS.rd W ⟨g, 0, none⟩ = some k) := Lib.hid fun W hW => (Shp.rd_to (hW.block g (by omega))).trans f1
  have R1 : Hid (∀ W, Below (g + 1) W0 W → Shp.Row iS W A1 n1 l1) := Lib.hid fun W hW => hr1.on (by rw [hg]; exact BW.out W hW)
  have R2 : Hid (∀ W, Below (g + 1) W0 W → Shp.Row iS W A2 n2 l2) := Lib.hid fun W hW => hr2.on (by rw [hg]; exact BW.out W hW)
  have HW1 := Lib.hid hw1
  have HW2 := Lib.hid hw2
  have N1 := Lib.hid hr1.len
  have N2 := Lib.hid hr2.len
  have L0 : Hid (Lt (g + 1) W0 W0 none D.It.zero 0) := Lib.hid ⟨t0, Below.refl _ _, D.It.zero_fit 0⟩
  have ZZ : Hid (∀ W, Below (g + 1) W0 W → g + 2 ≤ W.heap.size) := Lib.hid fun W hW => by have := hW.size; omega
  obtain ⟨m, hm, hk1, hk2⟩ := conv_1000 o0 h1 h2
  obtain ⟨o, ho⟩ : ∃ o : Int, 1 + (m : Int) = o := ⟨_, rfl⟩
  have o1 : 1 ≤ o := by omega
  have o2 : o ≤ 1000 := by omega
  clear b0 f0 t0 b1 f1 bw0 hr1 hr2 hw1 hw2
  go_enter Tryd.func3, Tryd.ntmps3
  go_wp2_with fail
  try simp only [hg]
  try simp only [hWK]
  try simp only [hW0]
  go_wp2_with fail
  have HG := Lib.hid hg
  clear hk1 hk2 hg hWK hW0 h1 h2 ho
  go_loopw [10] (fun x wr => ∃ (i : Nat) (M : Option Nat) (s : D.It), i ≤ n1 ∧ i ≤ 40 ∧ x = .int .i64 i ∧ Hid (Lt (g + 1) W0 wr M s (2 * i))) (fun x _ => n1 - (intOf x).toNat)
  case atStart => exact ⟨0, none, D.It.zero, Nat.zero_le _, by omega, rfl, L0⟩
  case round =>
    obtain ⟨i, M, s, hi, hi40, rfl, HL⟩ := hrel
    clear L0
    have i0 : (0 : Int) ≤ (i : Int) := by omega
    by_cases hlt : i < n1
    · have i1 : (i : Int) < (n1 : Int) := by omega
      by_cases h40 : i < 40
      · have i2 : (i : Int) < 40 := by omega
        obtain ⟨x, hx⟩ : ∃ x, l1[i]? = some x := ⟨_, List.getElem?_eq_getElem (by rw [N1.out]; exact hlt)⟩
        obtain ⟨ad, hA, hal, hrd⟩ := (R1.out wr HL.out.b).rd hx
        have hwx := HW1.out x (List.mem_of_getElem? hx)
        have hrd : iS.rd wr (ad.add (i * 52)) = some x := hrd
        subst hA
        have q0 := (ia_row hrd).1
        have QB := Lib.hid (fun (W : World) (hW : Below (g + 1) W0 W) => ia_row (show iS.rd W (ad.add (i * 52)) = some x from (by obtain ⟨ad', e', _, hr'⟩ := (R1.out W hW).rd hx; injection e' with e'; subst e'; exact hr')))
        have LD : Hid (Lt (g + 1) W0 wr.drew M s (2 * i)) := Lib.hid (HL.out.on (Below.refl _ _).drew)
        have hb0 : Below (g + 1) W0 wr.drew := LD.out.b
        clear hx hrd
        obtain ⟨xd, xo, xa, xb⟩ := x
        simp only at q0 QB hwx
        cases xd with
        | true =>
          have CD : Hid (Calls Tryd.prog 4 #[.pointer (some ⟨g + 1, 0, none⟩), .int .i64 xo, .slice (some ⟨wr.heap.size, 0, none⟩) 2 2] (wr.alloc (.cells (kcs2 xa xb) 30)).drew fun e w' => ∃ (s' : D.It), e = .returned (.int .i64 ((s.drop xo [xa, xb]).2 : Nat)) ∧ Lt (g + 1) W0 w' M s' (2 * i) ∧ Kp xo s s' ∧ Stay (g + 1) M wr.drew M w') := Lib.hid (LD.out.drop2 xo xa xb rfl)
          go_wp2_with fail
          refine wp_region_noPanic ?_
          refine wp_region_held_drew (S := fun W => Below (g + 1) W0 W) (by kernel_rfl) hb0 (fun _ => ?_)
          refine takeS 0 (some 41) ?v2 (by kernel_rfl) (by kernel_rfl) (by kernel_rfl) (by kernel_rfl) (fun _ _ _ h => h) (by rfl) ?hy2 hb0  ?rest2
          case hy2 => (intro o ho W hW; simp only [List.getElem?_toArray, List.getElem?_cons_succ, List.getElem?_cons_zero, Option.some.injEq] at ho; subst ho; (try dsimp only at hW); skip; go_simp; try rfl)
          try simp only [Act.put, List.setIfInBounds_toArray, List.set_cons_zero, List.set_cons_succ]
          refine takeS 1 (some 42) ?v3 (by kernel_rfl) (by kernel_rfl) (by kernel_rfl) (by kernel_rfl) (fun _ _ _ h => h) (by rfl) ?hy3 hb0  ?rest3
          case hy3 => (intro o ho W hW; simp only [List.getElem?_toArray, List.getElem?_cons_succ, List.getElem?_cons_zero, Option.some.injEq] at ho; subst ho; (try dsimp only at hW); skip; go_simp; try rfl)
          try simp only [Act.put, List.setIfInBounds_toArray, List.set_cons_zero, List.set_cons_succ]
          refine takeS 2 (some 43) ?v4 (by kernel_rfl) (by kernel_rfl) (by kernel_rfl) (by kernel_rfl) (fun _ _ _ h => h) (by rfl) ?hy4 hb0  ?rest4
          case hy4 => (intro o ho W hW; simp only [List.getElem?_toArray, List.getElem?_cons_succ, List.getElem?_cons_zero, Option.some.injEq] at ho; subst ho; (try dsimp only at hW); skip; go_simp; try rfl)
          try simp only [Act.put, List.setIfInBounds_toArray, List.set_cons_zero, List.set_cons_succ]
          refine takeS 3 (some 44) ?v5 (by kernel_rfl) (by kernel_rfl) (by kernel_rfl) (by kernel_rfl) (fun _ _ _ h => h) (by rfl) ?hy5 hb0  ?rest5
          case hy5 => (intro o ho W hW; simp only [List.getElem?_toArray, List.getElem?_cons_succ, List.getElem?_cons_zero, Option.some.injEq] at ho; subst ho; (try dsimp only at hW); skip; go_simp; try rfl)
          try simp only [Act.put, List.setIfInBounds_toArray, List.set_cons_zero, List.set_cons_succ]
          refine takeS 4 (some 45) ?v6 (by kernel_rfl) (by kernel_rfl) (by kernel_rfl) (by kernel_rfl) (fun _ _ _ h => h) (by rfl) ?hy6 hb0 ?rest6
          case hy6 => (intro o ho W hW; simp only [List.getElem?_toArray, List.getElem?_cons_succ, List.getElem?_cons_zero, Option.some.injEq] at ho; subst ho; (try dsimp only at hW); have q1 := (QB.out W hW).2.1; clear hW; go_simp; try rfl)
          try simp only [Act.put, List.setIfInBounds_toArray, List.set_cons_zero, List.set_cons_succ]
          refine takeS 5 (some 46) ?v7 (by kernel_rfl) (by kernel_rfl) (by kernel_rfl) (by kernel_rfl) (fun _ _ _ h => h) (by rfl) ?hy7 hb0  ?rest7
          case hy7 => (intro o ho W hW; simp only [List.getElem?_toArray, List.getElem?_cons_succ, List.getElem?_cons_zero, Option.some.injEq] at ho; subst ho; (try dsimp only at hW); skip; go_simp; try rfl)
          try simp only [Act.put, List.setIfInBounds_toArray, List.set_cons_zero, List.set_cons_succ]
          refine takeS 6 (some 47) ?v8 (by kernel_rfl) (by kernel_rfl) (by kernel_rfl) (by kernel_rfl) (fun _ _ _ h => h) (by rfl) ?hy8 hb0  ?rest8
          case hy8 => (intro o ho W hW; simp only [List.getElem?_toArray, List.getElem?_cons_succ, List.getElem?_cons_zero, Option.some.injEq] at ho; subst ho; (try dsimp only at hW); skip; go_simp; try rfl)
          try simp only [Act.put, List.setIfInBounds_toArray, List.set_cons_zero, List.set_cons_succ]
          refine takeS 7 (some 48) ?v9 (by kernel_rfl) (by kernel_rfl) (by kernel_rfl) (by kernel_rfl) (fun _ _ _ h => h) (by rfl) ?hy9 hb0  ?rest9
          case hy9 => (intro o ho W hW; simp only [List.getElem?_toArray, List.getElem?_cons_succ, List.getElem?_cons_zero, Option.some.injEq] at ho; subst ho; (try dsimp only at hW); skip; go_simp; try rfl)
          try simp only [Act.put, List.setIfInBounds_toArray, List.set_cons_zero, List.set_cons_succ]
          refine takeS 8 (some 49) ?v10 (by kernel_rfl) (by kernel_rfl) (by kernel_rfl) (by kernel_rfl) (fun _ _ _ h => h) (by rfl) ?hy10 hb0  ?rest10
          case hy10 => (intro o ho W hW; simp only [List.getElem?_toArray, List.getElem?_cons_succ, List.getElem?_cons_zero, Option.some.injEq] at ho; subst ho; (try dsimp only at hW); skip; go_simp; try rfl)
          try simp only [Act.put, List.setIfInBounds_toArray, List.set_cons_zero, List.set_cons_succ]
          refine takeS 9 (some 50) ?v11 (by kernel_rfl) (by kernel_rfl) (by kernel_rfl) (by kernel_rfl) (fun _ _ _ h => h) (by rfl) ?hy11 hb0 ?rest11
          case hy11 => (intro o ho W hW; simp only [List.getElem?_toArray, List.getElem?_cons_succ, List.getElem?_cons_zero, Option.some.injEq] at ho; subst ho; (try dsimp only at hW); have q2 := (QB.out W hW).2.2.1; clear hW; go_simp; try rfl)
          try simp only [Act.put, List.setIfInBounds_toArray, List.set_cons_zero, List.set_cons_succ]
          refine takeS 10 (some 51) ?v12 (by kernel_rfl) (by kernel_rfl) (by kernel_rfl) (by kernel_rfl) (fun _ _ _ h => h) (by rfl) ?hy12 hb0  ?rest12
          case hy12 => (intro o ho W hW; simp only [List.getElem?_toArray, List.getElem?_cons_succ, List.getElem?_cons_zero, Option.some.injEq] at ho; subst ho; (try dsimp only at hW); skip; go_simp; try rfl)
          try simp only [Act.put, List.setIfInBounds_toArray, List.set_cons_zero, List.set_cons_succ]
          refine takeS 11 (some 52) ?v13 (by kernel_rfl) (by kernel_rfl) (by kernel_rfl) (by kernel_rfl) (fun _ _ _ h => h) (by rfl) ?hy13 hb0  ?rest13
          case hy13 => (intro o ho W hW; simp only [List.getElem?_toArray, List.getElem?_cons_succ, List.getElem?_cons_zero, Option.some.injEq] at ho; subst ho; (try dsimp only at hW); skip; go_simp; try rfl)
          try simp only [Act.put, List.setIfInBounds_toArray, List.set_cons_zero, List.set_cons_succ]
          refine takeS 12 (some 53) ?v14 (by kernel_rfl) (by kernel_rfl) (by kernel_rfl) (by kernel_rfl) (fun _ _ _ h => h) (by rfl) ?hy14 hb0  ?rest14
          case hy14 => (intro o ho W hW; simp only [List.getElem?_toArray, List.getElem?_cons_succ, List.getElem?_cons_zero, Option.some.injEq] at ho; subst ho; (try dsimp only at hW); skip; go_simp; try rfl)
          try simp only [Act.put, List.setIfInBounds_toArray, List.set_cons_zero, List.set_cons_succ]
          refine takeS 13 (some 54) ?v15 (by kernel_rfl) (by kernel_rfl) (by kernel_rfl) (by kernel_rfl) (fun _ _ _ h => h) (by rfl) ?hy15 hb0  ?rest15
          case hy15 => (intro o ho W hW; simp only [List.getElem?_toArray, List.getElem?_cons_succ, List.getElem?_cons_zero, Option.some.injEq] at ho; subst ho; (try dsimp only at hW); skip; go_simp; try rfl)
          try simp only [Act.put, List.setIfInBounds_toArray, List.set_cons_zero, List.set_cons_succ]
          refine takeS 14 (some 55) ?v16 (by kernel_rfl) (by kernel_rfl) (by kernel_rfl) (by kernel_rfl) (fun _ _ _ h => h) (by rfl) ?hy16 hb0 ?rest16
          case hy16 => (intro o ho W hW; simp only [List.getElem?_toArray, List.getElem?_cons_succ, List.getElem?_cons_zero, Option.some.injEq] at ho; subst ho; (try dsimp only at hW); have q3 := (QB.out W hW).2.2.2; clear hW; go_simp; try rfl)
          try simp only [Act.put, List.setIfInBounds_toArray, List.set_cons_zero, List.set_cons_succ]
          refine nextS 15 (by kernel_rfl) (by rfl) (fun o ho K hK => ?_)
          simp only [List.getElem?_toArray, List.getElem?_cons_succ, List.getElem?_cons_zero, Option.some.injEq] at ho; subst ho
          go_simp
          refine hK.out _ _ (hb0.alloc (by have := ZZ.out _ hb0; omega) _) (fun _ => ?_)
          clear hK K
          try simp only [Act.put, List.setIfInBounds_toArray, List.set_cons_zero, List.set_cons_succ]
          refine nextS 16 (by kernel_rfl) (by rfl) (fun o ho K hK => ?_)
          simp only [List.getElem?_toArray, List.getElem?_cons_succ, List.getElem?_cons_zero, Option.some.injEq] at ho; subst ho
          go_simp
          go_at_call 4
          refine CD.out.mono ?_
          rintro e w2 ⟨s2, rfl, L2, kp, _⟩
          refine hK.out _ _ L2.b (fun _ => ?_)
          clear hK K
          try simp only [Act.put, List.setIfInBounds_toArray, List.set_cons_zero, List.set_cons_succ]
          refine wpAnyH_done (by kernel_rfl) ?_ _
          refine NoPanic.normal ?_
          go_wp2
          go_roundw
          case rel => exact ⟨i + 1, M, s2, by omega, by omega, by go_num, Lib.hid (L2.more (by omega))⟩
          case measure => simp [intOf]; omega
        | false =>
          have CD : Hid (Calls Tryd.prog 5 #[.pointer (some ⟨g + 1, 0, none⟩), .int .i64 xo, .slice (some ⟨wr.heap.size, 0, none⟩) 2 2] (wr.alloc (.cells (kcs2 xa xb) 30)).drew fun e w' => ∃ (n r : Int) (M' : Option Nat) (s' : D.It), e = .returned (.tuple #[.int .i64 n, .int .i64 r]) ∧ Lt (g + 1) W0 w' M' s' (2 * i + 2) ∧ Kp xo s s' ∧ Stay (g + 1) M wr.drew M' w') := Lib.hid (LD.out.take2 (by omega) xo hwx.2 xa xb rfl)
          go_wp2_with fail
          refine wp_region_noPanic ?_
          refine wp_region_held_drew (S := fun W => Below (g + 1) W0 W) (by kernel_rfl) hb0 (fun _ => ?_)
          refine takeS 0 (some 58) ?v23 (by kernel_rfl) (by kernel_rfl) (by kernel_rfl) (by kernel_rfl) (fun _ _ _ h => h) (by rfl) ?hy23 hb0  ?rest23
          case hy23 => (intro o ho W hW; simp only [List.getElem?_toArray, List.getElem?_cons_succ, List.getElem?_cons_zero, Option.some.injEq] at ho; subst ho; (try dsimp only at hW); skip; go_simp; try rfl)
          try simp only [Act.put, List.setIfInBounds_toArray, List.set_cons_zero, List.set_cons_succ]
          refine takeS 1 (some 59) ?v24 (by kernel_rfl) (by kernel_rfl) (by kernel_rfl) (by kernel_rfl) (fun _ _ _ h => h) (by rfl) ?hy24 hb0  ?rest24
          case hy24 => (intro o ho W hW; simp only [List.getElem?_toArray, List.getElem?_cons_succ, List.getElem?_cons_zero, Option.some.injEq] at ho; subst ho; (try dsimp only at hW); skip; go_simp; try rfl)
          try simp only [Act.put, List.setIfInBounds_toArray, List.set_cons_zero, List.set_cons_succ]
          refine takeS 2 (some 60) ?v25 (by kernel_rfl) (by kernel_rfl) (by kernel_rfl) (by kernel_rfl) (fun _ _ _ h => h) (by rfl) ?hy25 hb0  ?rest25
          case hy25 => (intro o ho W hW; simp only [List.getElem?_toArray, List.getElem?_cons_succ, List.getElem?_cons_zero, Option.some.injEq] at ho; subst ho; (try dsimp only at hW); skip; go_simp; try rfl)
          try simp only [Act.put, List.setIfInBounds_toArray, List.set_cons_zero, List.set_cons_succ]
          refine takeS 3 (some 61) ?v26 (by kernel_rfl) (by kernel_rfl) (by kernel_rfl) (by kernel_rfl) (fun _ _ _ h => h) (by rfl) ?hy26 hb0  ?rest26
          case hy26 => (intro o ho W hW; simp only [List.getElem?_toArray, List.getElem?_cons_succ, List.getElem?_cons_zero, Option.some.injEq] at ho; subst ho; (try dsimp only at hW); skip; go_simp; try rfl)
          try simp only [Act.put, List.setIfInBounds_toArray, List.set_cons_zero, List.set_cons_succ]
          refine takeS 4 (some 62) ?v27 (by kernel_rfl) (by kernel_rfl) (by kernel_rfl) (by kernel_rfl) (fun _ _ _ h => h) (by rfl) ?hy27 hb0 ?rest27
          case hy27 => (intro o ho W hW; simp only [List.getElem?_toArray, List.getElem?_cons_succ, List.getElem?_cons_zero, Option.some.injEq] at ho; subst ho; (try dsimp only at hW); have q1 := (QB.out W hW).2.1; clear hW; go_simp; try rfl)
          try simp only [Act.put, List.setIfInBounds_toArray, List.set_cons_zero, List.set_cons_succ]
          refine takeS 5 (some 63) ?v28 (by kernel_rfl) (by kernel_rfl) (by kernel_rfl) (by kernel_rfl) (fun _ _ _ h => h) (by rfl) ?hy28 hb0  ?rest28
          case hy28 => (intro o ho W hW; simp only [List.getElem?_toArray, List.getElem?_cons_succ, List.getElem?_cons_zero, Option.some.injEq] at ho; subst ho; (try dsimp only at hW); skip; go_simp; try rfl)
          try simp only [Act.put, List.setIfInBounds_toArray, List.set_cons_zero, List.set_cons_succ]
          refine takeS 6 (some 64) ?v29 (by kernel_rfl) (by kernel_rfl) (by kernel_rfl) (by kernel_rfl) (fun _ _ _ h => h) (by rfl) ?hy29 hb0  ?rest29
          case hy29 => (intro o ho W hW; simp only [List.getElem?_toArray, List.getElem?_cons_succ, List.getElem?_cons_zero, Option.some.injEq] at ho; subst ho; (try dsimp only at hW); skip; go_simp; try rfl)
          try simp only [Act.put, List.setIfInBounds_toArray, List.set_cons_zero, List.set_cons_succ]
          refine takeS 7 (some 65) ?v30 (by kernel_rfl) (by kernel_rfl) (by kernel_rfl) (by kernel_rfl) (fun _ _ _ h => h) (by rfl) ?hy30 hb0  ?rest30
          case hy30 => (intro o ho W hW; simp only [List.getElem?_toArray, List.getElem?_cons_succ, List.getElem?_cons_zero, Option.some.injEq] at ho; subst ho; (try dsimp only at hW); skip; go_simp; try rfl)
          try simp only [Act.put, List.setIfInBounds_toArray, List.set_cons_zero, List.set_cons_succ]
          refine takeS 8 (some 66) ?v31 (by kernel_rfl) (by kernel_rfl) (by kernel_rfl) (by kernel_rfl) (fun _ _ _ h => h) (by rfl) ?hy31 hb0  ?rest31
          case hy31 => (intro o ho W hW; simp only [List.getElem?_toArray, List.getElem?_cons_succ, List.getElem?_cons_zero, Option.some.injEq] at ho; subst ho; (try dsimp only at hW); skip; go_simp; try rfl)
          try simp only [Act.put, List.setIfInBounds_toArray, List.set_cons_zero, List.set_cons_succ]
          refine takeS 9 (some 67) ?v32 (by kernel_rfl) (by kernel_rfl) (by kernel_rfl) (by kernel_rfl) (fun _ _ _ h => h) (by rfl) ?hy32 hb0 ?rest32
          case hy32 => (intro o ho W hW; simp only [List.getElem?_toArray, List.getElem?_cons_succ, List.getElem?_cons_zero, Option.some.injEq] at ho; subst ho; (try dsimp only at hW); have q2 := (QB.out W hW).2.2.1; clear hW; go_simp; try rfl)
          try simp only [Act.put, List.setIfInBounds_toArray, List.set_cons_zero, List.set_cons_succ]
          refine takeS 10 (some 68) ?v33 (by kernel_rfl) (by kernel_rfl) (by kernel_rfl) (by kernel_rfl) (fun _ _ _ h => h) (by rfl) ?hy33 hb0  ?rest33
          case hy33 => (intro o ho W hW; simp only [List.getElem?_toArray, List.getElem?_cons_succ, List.getElem?_cons_zero, Option.some.injEq] at ho; subst ho; (try dsimp only at hW); skip; go_simp; try rfl)
          try simp only [Act.put, List.setIfInBounds_toArray, List.set_cons_zero, List.set_cons_succ]
          refine takeS 11 (some 69) ?v34 (by kernel_rfl) (by kernel_rfl) (by kernel_rfl) (by kernel_rfl) (fun _ _ _ h => h) (by rfl) ?hy34 hb0  ?rest34
          case hy34 => (intro o ho W hW; simp only [List.getElem?_toArray, List.getElem?_cons_succ, List.getElem?_cons_zero, Option.some.injEq] at ho; subst ho; (try dsimp only at hW); skip; go_simp; try rfl)
          try simp only [Act.put, List.setIfInBounds_toArray, List.set_cons_zero, List.set_cons_succ]
          refine takeS 12 (some 70) ?v35 (by kernel_rfl) (by kernel_rfl) (by kernel_rfl) (by kernel_rfl) (fun _ _ _ h => h) (by rfl) ?hy35 hb0  ?rest35
          case hy35 => (intro o ho W hW; simp only [List.getElem?_toArray, List.getElem?_cons_succ, List.getElem?_cons_zero, Option.some.injEq] at ho; subst ho; (try dsimp only at hW); skip; go_simp; try rfl)
          try simp only [Act.put, List.setIfInBounds_toArray, List.set_cons_zero, List.set_cons_succ]
          refine takeS 13 (some 71) ?v36 (by kernel_rfl) (by kernel_rfl) (by kernel_rfl) (by kernel_rfl) (fun _ _ _ h => h) (by rfl) ?hy36 hb0  ?rest36
          case hy36 => (intro o ho W hW; simp only [List.getElem?_toArray, List.getElem?_cons_succ, List.getElem?_cons_zero, Option.some.injEq] at ho; subst ho; (try dsimp only at hW); skip; go_simp; try rfl)
          try simp only [Act.put, List.setIfInBounds_toArray, List.set_cons_zero, List.set_cons_succ]
          refine takeS 14 (some 72) ?v37 (by kernel_rfl) (by kernel_rfl) (by kernel_rfl) (by kernel_rfl) (fun _ _ _ h => h) (by rfl) ?hy37 hb0 ?rest37
          case hy37 => (intro o ho W hW; simp only [List.getElem?_toArray, List.getElem?_cons_succ, List.getElem?_cons_zero, Option.some.injEq] at ho; subst ho; (try dsimp only at hW); have q3 := (QB.out W hW).2.2.2; clear hW; go_simp; try rfl)
          try simp only [Act.put, List.setIfInBounds_toArray, List.set_cons_zero, List.set_cons_succ]
          refine nextS 15 (by kernel_rfl) (by rfl) (fun o ho K hK => ?_)
          simp only [List.getElem?_toArray, List.getElem?_cons_succ, List.getElem?_cons_zero, Option.some.injEq] at ho; subst ho
          go_simp
          refine hK.out _ _ (hb0.alloc (by have := ZZ.out _ hb0; omega) _) (fun _ => ?_)
          clear hK K
          try simp only [Act.put, List.setIfInBounds_toArray, List.set_cons_zero, List.set_cons_succ]
          refine nextS 16 (by kernel_rfl) (by rfl) (fun o ho K hK => ?_)
          simp only [List.getElem?_toArray, List.getElem?_cons_succ, List.getElem?_cons_zero, Option.some.injEq] at ho; subst ho
          go_simp
          go_at_call 5
          refine CD.out.mono ?_
          rintro e w2 ⟨n, r, M2, s2, rfl, L2, kp, _⟩
          refine hK.out _ _ L2.b (fun _ => ?_)
          clear hK K
          try simp only [Act.put, List.setIfInBounds_toArray, List.set_cons_zero, List.set_cons_succ]
          refine wpAnyH_done (by kernel_rfl) ?_ _
          refine NoPanic.normal ?_
          go_wp2
          go_roundw
          case rel => exact ⟨i + 1, M2, s2, by omega, by omega, by go_num, Lib.hid (L2.more (by omega))⟩
          case measure => simp [intOf]; omega
      · have i2 : (40 : Int) ≤ (i : Int) := by omega
        have kk1 := FK.out wr HL.out.b
        have CT := Lib.hid (HL.out.take1 (by omega) o1 (by omega) k rfl)
        have hel := s.err_le o k
        obtain ⟨q, hq⟩ : ∃ q, s.err o k = q := ⟨_, rfl⟩
        rw [hq] at CT hel
        have HE := Lib.hid hq
        clear hq
        by_cases hq0 : q = 0
        · subst hq0
          have CT : Hid (Calls Tryd.prog 5 #[.pointer (some ⟨g + 1, 0, none⟩), .int .i64 o, .slice (some ⟨wr.heap.size, 0, none⟩) 1 1] (wr.alloc (.cells (kS.v k) 30)) fun e w' => ∃ (n : Int) (M' : Option Nat) (s' : D.It), e = .returned (.tuple #[.int .i64 n, .int .i64 0]) ∧ Lt (g + 1) W0 w' M' s' (2 * i + 1) ∧ (0 = 0 → s' = s.put k o) ∧ (0 ≠ 0 → s' = s) ∧ Stay (g + 1) M wr M' w') := CT
          have HK : Hid (D.kright k = true) := Lib.hid (by
            have := HE.out
            unfold D.It.err at this
            split at this
            · assumption
            · cases this)
          go_wp2_with (go_at_call 5; (with_reducible refine CT.out.mono ?_); rintro e w1 ⟨n, M1, s1, rfl, L1, e1, _, _⟩; have HL1 := Lib.hid (L1.more (c' := 81) (by omega)); have HS1 : Hid (s1.f k = some o) := Lib.hid (by rw [e1 rfl]; exact D.It.put_f _ _ _); clear L1 e1)
          clear kk1
          go_loopw [15] (fun x wx => ∃ (j : Nat) (M : Option Nat) (s : D.It), j ≤ n2 ∧ j ≤ 40 ∧ x = .int .i64 j ∧ Hid (Lt (g + 1) W0 wx M s (81 + 2 * j)) ∧ Hid (s.f k = some o)) (fun x _ => n2 - (intOf x).toNat)
          case atStart => exact ⟨0, M1, s1, Nat.zero_le _, by omega, rfl, HL1, HS1⟩
          case round =>
            obtain ⟨j, M2, s2, hj, hj40, rfl, HL2, HS2⟩ := hrel
            clear HL HE CT HL1 HS1
            have j0 : (0 : Int) ≤ (j : Int) := by omega
            by_cases hjt : j < n2
            · have j1 : (j : Int) < (n2 : Int) := by omega
              by_cases hj4 : j < 40
              · have j2 : (j : Int) < 40 := by omega
                obtain ⟨x, hx⟩ : ∃ x, l2[j]? = some x := ⟨_, List.getElem?_eq_getElem (by rw [N2.out]; exact hjt)⟩
                obtain ⟨ad, hA, hal, hrd⟩ := (R2.out _ HL2.out.b).rd hx
                have hwx := HW2.out x (List.mem_of_getElem? hx)
                subst hA
                have hrd : iS.rd wr (ad.add (j * 52)) = some x := hrd
                have GA := Lib.hid (Ga.new HL2.out x)
                obtain ⟨G, hG⟩ : ∃ G, wr.heap.size = G := ⟨_, rfl⟩
                rw [hG] at GA
                obtain ⟨W1, hW1⟩ : ∃ W1, wr.alloc (.cells (iS.v x) 36) = W1 := ⟨_, rfl⟩
                rw [hW1] at GA
                obtain ⟨c1, c2, c3, c4⟩ := GA.out.in_
                have kk2 := FK.out W1 GA.out.l.b
                have CO : Hid (∀ W M s c, Lt (g + 1) W0 W M s c → s.f k = some o → Calls Tryd.prog 6 #[.pointer (some ⟨g + 1, 0, none⟩), .agg (kS.v k)] W fun e w' => e = .returned (.tuple #[.int .i64 o, .bool true]) ∧ Below W.heap.size W w') := Lib.hid fun W M s c h hs => by
                  have := owner_any h.t k
                  rw [hs] at this
                  exact this
                have hoo : (o != o) = false := by simp
                clear hx
                obtain ⟨xd, xo, xa, xb⟩ := x
                simp only at c1 c2 c3 c4 hwx
                cases xd with
                | true =>
                  by_cases hxo : xo = o
                  · subst hxo
                    go_wp2_with fail
                    try rw [hG]
                    try rw [hW1]
                    clear hW1
                    go_wp2_with (go_at_call 6; (with_reducible refine (CO.out _ _ _ _ GA.out.l HS2.out).mono ?_); rintro e w5 ⟨rfl, b5⟩; have HL5 := Lib.hid (GA.out.l.on b5); clear b5)
                    go_roundw
                    case rel => exact ⟨j + 1, M2, s2, by omega, by omega, by go_num, Lib.hid (HL5.out.more (by omega)), HS2⟩
                    case measure => simp [intOf]; omega
                  · have hne : (xo != o) = true := by simp [hxo]
                    have CD := Lib.hid (GA.out.l.drop2 xo xa xb rfl)
                    go_wp2_with fail
                    try rw [hG]
                    try rw [hW1]
                    clear hW1
                    go_wp2_with (first
                      | (go_at_call 4; (with_reducible refine CD.out.mono ?_); rintro e w4 ⟨s4, rfl, L4, k4, y4⟩; have GA4 := Lib.hid (GA.out.next L4 y4); have HS4 := Lib.hid (k4 _ _ HS2.out hxo); obtain ⟨d1, d2, d3, d4⟩ := GA4.out.in_; have kk4 := FK.out _ L4.b; clear L4 k4 y4)
                      | (go_at_call 6; (with_reducible refine (CO.out _ _ _ _ GA4.out.l HS4.out).mono ?_); rintro e w5 ⟨rfl, b5⟩; have HL5 := Lib.hid (GA4.out.l.on b5); clear b5))
                    go_roundw
                    case rel => exact ⟨j + 1, M2, s4, by omega, by omega, by go_num, Lib.hid (HL5.out.more (by omega)), HS4⟩
                    case measure => simp [intOf]; omega
                | false =>
                  by_cases hxo : xo = o
                  · subst hxo
                    go_wp2_with fail
                    try rw [hG]
                    try rw [hW1]
                    clear hW1
                    go_wp2_with (go_at_call 6; (with_reducible refine (CO.out _ _ _ _ GA.out.l HS2.out).mono ?_); rintro e w5 ⟨rfl, b5⟩; have HL5 := Lib.hid (GA.out.l.on b5); clear b5)
                    go_roundw
                    case rel => exact ⟨j + 1, M2, s2, by omega, by omega, by go_num, Lib.hid (HL5.out.more (by omega)), HS2⟩
                    case measure => simp [intOf]; omega
                  · have hne : (xo != o) = true := by simp [hxo]
                    have CN := Lib.hid (GA.out.l.take_no (by omega) hwx.2 HS2.out HK.out hxo rfl)
                    go_wp2_with fail
                    try rw [hG]
                    try rw [hW1]
                    clear hW1
                    go_wp2_with (go_at_call 5; (with_reducible refine CN.out.mono ?_); rintro e w4 ⟨n4, r4, M4, rfl, hr4, L4, y4⟩; have GA4 := Lib.hid (GA.out.next L4 y4); obtain ⟨d1, d2, d3, d4⟩ := GA4.out.in_; have kk4 := FK.out _ L4.b; have CT4 := Lib.hid (GA4.out.l.take2 (by omega) xo hwx.2 xa xb rfl); clear L4 y4; rcases hr4 with rfl | rfl)
                    all_goals
                      go_wp2_with (first
                        | (go_at_call 5; (with_reducible refine CT4.out.mono ?_); rintro e w6 ⟨n6, r6, M6, s6, rfl, L6, k6, y6⟩; have HL6 := Lib.hid L6; have HS6 := Lib.hid (k6 _ _ HS2.out hxo); have kk6 := FK.out _ L6.b; clear L6 k6 y6)
                        | (go_at_call 6; (with_reducible refine (CO.out _ _ _ _ HL6.out HS6.out).mono ?_); rintro e w5 ⟨rfl, b5⟩; have HL5 := Lib.hid (HL6.out.on b5); clear b5))
                      go_roundw
                      case rel => exact ⟨j + 1, M6, s6, by omega, by omega, by go_num, Lib.hid (HL5.out.more (by omega)), HS6⟩
                      case measure => simp [intOf]; omega
              · have j2 : (40 : Int) ≤ (j : Int) := by omega
                have CK := Lib.hid (fun W => known_any W)
                have kk6 := FK.out _ HL2.out.b
                have CD : Hid (∀ W M s c, Lt (g + 1) W0 W M s c → s.f k = some o → ∀ H, H = W.heap.size → Calls Tryd.prog 4 #[.pointer (some ⟨g + 1, 0, none⟩), .int .i64 o, .slice (some ⟨H, 0, none⟩) 2 2] (W.alloc (.cells (kcs2 k k) 30)) fun e w' => e = .returned (.int .i64 1) ∧ Below (g + 1) W0 w') := Lib.hid fun W M s c h hs H hH => by
                  have := h.drop2 o k k hH
                  rw [D.It.drop_own hs] at this
                  exact this.mono fun e w' ⟨s', h1, h2, _⟩ => ⟨h1, h2.b⟩
                go_wp2_with (first
                  | (go_at_call 7; (with_reducible refine (CK.out _).mono ?_); rintro e w3 ⟨rfl, b3⟩; have HL3 := Lib.hid (HL2.out.on b3); have kk7 := FK.out _ HL3.out.b; clear b3)
                  | (go_at_call 4; (with_reducible refine (CD.out _ _ _ _ HL3.out HS2.out _ rfl).mono ?_); rintro e w4 ⟨rfl, b4⟩))
                go_ret
                exact ⟨rfl, by rw [HG.out]; exact BW.out _ b4⟩
            · have j1 : (n2 : Int) ≤ (j : Int) := by omega
              have CK := Lib.hid (fun W => known_any W)
              have kk6 := FK.out _ HL2.out.b
              have CD : Hid (∀ W M s c, Lt (g + 1) W0 W M s c → s.f k = some o → ∀ H, H = W.heap.size → Calls Tryd.prog 4 #[.pointer (some ⟨g + 1, 0, none⟩), .int .i64 o, .slice (some ⟨H, 0, none⟩) 2 2] (W.alloc (.cells (kcs2 k k) 30)) fun e w' => e = .returned (.int .i64 1) ∧ Below (g + 1) W0 w') := Lib.hid fun W M s c h hs H hH => by
                have := h.drop2 o k k hH
                rw [D.It.drop_own hs] at this
                exact this.mono fun e w' ⟨s', h1, h2, _⟩ => ⟨h1, h2.b⟩
              go_wp2_with (first
                | (go_at_call 7; (with_reducible refine (CK.out _).mono ?_); rintro e w3 ⟨rfl, b3⟩; have HL3 := Lib.hid (HL2.out.on b3); have kk7 := FK.out _ HL3.out.b; clear b3)
                | (go_at_call 4; (with_reducible refine (CD.out _ _ _ _ HL3.out HS2.out _ rfl).mono ?_); rintro e w4 ⟨rfl, b4⟩))
              go_ret
              exact ⟨rfl, by rw [HG.out]; exact BW.out _ b4⟩
        · have HQ : Hid (q = 3 ∧ D.kright k = false ∨ q = 11 ∧ ∃ v, s.f k = some v ∧ v ≠ o) := Lib.hid (by
            have := HE.out
            unfold D.It.err at this
            split at this
            · rename_i hk
              split at this
              · rename_i v hv
                split at this
                · exact absurd this.symm hq0
                · rename_i hne
                  exact .inr ⟨this.symm, v, hv, hne⟩
              · exact absurd this.symm hq0
            · rename_i hk
              exact .inl ⟨this.symm, by simpa using hk⟩)
          have CK := Lib.hid (fun W => known_any W)
          rcases HQ.out with ⟨rfl, hkr⟩ | ⟨rfl, v, hv, hvo⟩
          · have CR := Lib.hid (fun W => keyright_any k W)
            rw [hkr] at CR
            have CO : Hid (∀ W M s c, Lt (g + 1) W0 W M s c → ∃ v b, Calls Tryd.prog 6 #[.pointer (some ⟨g + 1, 0, none⟩), .agg (kS.v k)] W fun e w' => e = .returned (.tuple #[.int .i64 v, .bool b]) ∧ Below W.heap.size W w') := Lib.hid fun W M s c h => ⟨_, _, owner_any h.t k⟩
            have CT : Hid (Calls Tryd.prog 5 #[.pointer (some ⟨g + 1, 0, none⟩), .int .i64 o, .slice (some ⟨wr.heap.size, 0, none⟩) 1 1] (wr.alloc (.cells (kS.v k) 30)) fun e w' => ∃ (n : Int) (M' : Option Nat) (s' : D.It), e = .returned (.tuple #[.int .i64 n, .int .i64 3]) ∧ Lt (g + 1) W0 w' M' s' (2 * i + 1) ∧ (3 = 0 → s' = s.put k o) ∧ (3 ≠ 0 → s' = s) ∧ Stay (g + 1) M wr M' w') := CT
            clear HE HQ hkr
            go_wp2_with (first
              | (go_at_call 5; (with_reducible refine CT.out.mono ?_); rintro e w1 ⟨n, M1, s1, rfl, L1, _, _, _⟩; have HL1 := Lib.hid L1; have kk3 := FK.out _ L1.b; obtain ⟨v, b, hO⟩ := CO.out _ _ _ _ L1; have HO := Lib.hid hO; clear L1 hO)
              | (go_at_call 6; (with_reducible refine HO.out.mono ?_); rintro e w2 ⟨rfl, b2⟩; have HL2 := Lib.hid (HL1.out.on b2); clear b2)
              | (go_at_call 7; (with_reducible refine (CK.out _).mono ?_); rintro e w3 ⟨rfl, b3⟩; have HL3 := Lib.hid (HL2.out.on b3); have kk5 := FK.out _ HL3.out.b; clear b3)
              | (go_at_call 8; (with_reducible refine (CR.out _).mono ?_); rintro e w4 ⟨rfl, b4⟩; have HL4 := Lib.hid (HL3.out.on b4); clear b4))
            go_ret
            exact ⟨rfl, by rw [HG.out]; exact BW.out _ HL4.out.b⟩
          · have CO : Hid (∀ W M c, Lt (g + 1) W0 W M s c → Calls Tryd.prog 6 #[.pointer (some ⟨g + 1, 0, none⟩), .agg (kS.v k)] W fun e w' => e = .returned (.tuple #[.int .i64 v, .bool true]) ∧ Below W.heap.size W w') := Lib.hid fun W M c h => by
              have := owner_any h.t k
              rw [hv] at this
              exact this
            have CT : Hid (Calls Tryd.prog 5 #[.pointer (some ⟨g + 1, 0, none⟩), .int .i64 o, .slice (some ⟨wr.heap.size, 0, none⟩) 1 1] (wr.alloc (.cells (kS.v k) 30)) fun e w' => ∃ (n : Int) (M' : Option Nat) (s' : D.It), e = .returned (.tuple #[.int .i64 n, .int .i64 11]) ∧ Lt (g + 1) W0 w' M' s' (2 * i + 1) ∧ (11 = 0 → s' = s.put k o) ∧ (11 ≠ 0 → s' = s) ∧ Stay (g + 1) M wr M' w') := CT
            have hvn : (v != o) = true := by simp [hvo]
            clear HE HQ hv hvo
            go_wp2_with (first
              | (go_at_call 5; (with_reducible refine CT.out.mono ?_); rintro e w1 ⟨n, M1, s1, rfl, L1, _, e1, _⟩; obtain rfl := e1 (by decide); have HL1 := Lib.hid L1; have kk3 := FK.out _ L1.b; have HO := Lib.hid (CO.out _ _ _ L1); clear L1 e1)
              | (go_at_call 6; (with_reducible refine HO.out.mono ?_); rintro e w2 ⟨rfl, b2⟩; have HL2 := Lib.hid (HL1.out.on b2); clear b2)
              | (go_at_call 7; (with_reducible refine (CK.out _).mono ?_); rintro e w3 ⟨rfl, b3⟩; have HL3 := Lib.hid (HL2.out.on b3); clear b3))
            go_ret
            exact ⟨rfl, by rw [HG.out]; exact BW.out _ HL3.out.b⟩
    · have i1 : (n1 : Int) ≤ (i : Int) := by omega
      have kk1 := FK.out wr HL.out.b
      have CT := Lib.hid (HL.out.take1 (by omega) o1 (by omega) k rfl)
      have hel := s.err_le o k
      obtain ⟨q, hq⟩ : ∃ q, s.err o k = q := ⟨_, rfl⟩
      rw [hq] at CT hel
      have HE := Lib.hid hq
      clear hq
      by_cases hq0 : q = 0
      · subst hq0
        have CT : Hid (Calls Tryd.prog 5 #[.pointer (some ⟨g + 1, 0, none⟩), .int .i64 o, .slice (some ⟨wr.heap.size, 0, none⟩) 1 1] (wr.alloc (.cells (kS.v k) 30)) fun e w' => ∃ (n : Int) (M' : Option Nat) (s' : D.It), e = .returned (.tuple #[.int .i64 n, .int .i64 0]) ∧ Lt (g + 1) W0 w' M' s' (2 * i + 1) ∧ (0 = 0 → s' = s.put k o) ∧ (0 ≠ 0 → s' = s) ∧ Stay (g + 1) M wr M' w') := CT
        have HK : Hid (D.kright k = true) := Lib.hid (by
          have := HE.out
          unfold D.It.err at this
          split at this
          · assumption
          · cases this)
        go_wp2_with (go_at_call 5; (with_reducible refine CT.out.mono ?_); rintro e w1 ⟨n, M1, s1, rfl, L1, e1, _, _⟩; have HL1 := Lib.hid (L1.more (c' := 81) (by omega)); have HS1 : Hid (s1.f k = some o) := Lib.hid (by rw [e1 rfl]; exact D.It.put_f _ _ _); clear L1 e1)
        clear kk1
        go_loopw [15] (fun x wx => ∃ (j : Nat) (M : Option Nat) (s : D.It), j ≤ n2 ∧ j ≤ 40 ∧ x = .int .i64 j ∧ Hid (Lt (g + 1) W0 wx M s (81 + 2 * j)) ∧ Hid (s.f k = some o)) (fun x _ => n2 - (intOf x).toNat)
        case atStart => exact ⟨0, M1, s1, Nat.zero_le _, by omega, rfl, HL1, HS1⟩
        case round =>
          obtain ⟨j, M2, s2, hj, hj40, rfl, HL2, HS2⟩ := hrel
          clear HL HE CT HL1 HS1
          have j0 : (0 : Int) ≤ (j : Int) := by omega
          by_cases hjt : j < n2
          · have j1 : (j : Int) < (n2 : Int) := by omega
            by_cases hj4 : j < 40
            · have j2 : (j : Int) < 40 := by omega
              obtain ⟨x, hx⟩ : ∃ x, l2[j]? = some x := ⟨_, List.getElem?_eq_getElem (by rw [N2.out]; exact hjt)⟩
              obtain ⟨ad, hA, hal, hrd⟩ := (R2.out _ HL2.out.b).rd hx
              have hwx := HW2.out x (List.mem_of_getElem? hx)
              subst hA
              have hrd : iS.rd wr (ad.add (j * 52)) = some x := hrd
              have GA := Lib.hid (Ga.new HL2.out x)
              obtain ⟨G, hG⟩ : ∃ G, wr.heap.size = G := ⟨_, rfl⟩
              rw [hG] at GA
              obtain ⟨W1, hW1⟩ : ∃ W1, wr.alloc (.cells (iS.v x) 36) = W1 := ⟨_, rfl⟩
              rw [hW1] at GA
              obtain ⟨c1, c2, c3, c4⟩ := GA.out.in_
              have kk2 := FK.out W1 GA.out.l.b
              have CO : Hid (∀ W M s c, Lt (g + 1) W0 W M s c → s.f k = some o → Calls Tryd.prog 6 #[.pointer (some ⟨g + 1, 0, none⟩), .agg (kS.v k)] W fun e w' => e = .returned (.tuple #[.int .i64 o, .bool true]) ∧ Below W.heap.size W w') := Lib.hid fun W M s c h hs => by
                have := owner_any h.t k
                rw [hs] at this
                exact this
              have hoo : (o != o) = false := by simp
              clear hx
              obtain ⟨xd, xo, xa, xb⟩ := x
              simp only at c1 c2 c3 c4 hwx
              cases xd with
              | true =>
                by_cases hxo : xo = o
                · subst hxo
                  go_wp2_with fail
                  try rw [hG]
                  try rw [hW1]
                  clear hW1
                  go_wp2_with (go_at_call 6; (with_reducible refine (CO.out _ _ _ _ GA.out.l HS2.out).mono ?_); rintro e w5 ⟨rfl, b5⟩; have HL5 := Lib.hid (GA.out.l.on b5); clear b5)
                  go_roundw
                  case rel => exact ⟨j + 1, M2, s2, by omega, by omega, by go_num, Lib.hid (HL5.out.more (by omega)), HS2⟩
                  case measure => simp [intOf]; omega
                · have hne : (xo != o) = true := by simp [hxo]
                  have CD := Lib.hid (GA.out.l.drop2 xo xa xb rfl)
                  go_wp2_with fail
                  try rw [hG]
                  try rw [hW1]
                  clear hW1
                  go_wp2_with (first
                    | (go_at_call 4; (with_reducible refine CD.out.mono ?_); rintro e w4 ⟨s4, rfl, L4, k4, y4⟩; have GA4 := Lib.hid (GA.out.next L4 y4); have HS4 := Lib.hid (k4 _ _ HS2.out hxo); obtain ⟨d1, d2, d3, d4⟩ := GA4.out.in_; have kk4 := FK.out _ L4.b; clear L4 k4 y4)
                    | (go_at_call 6; (with_reducible refine (CO.out _ _ _ _ GA4.out.l HS4.out).mono ?_); rintro e w5 ⟨rfl, b5⟩; have HL5 := Lib.hid (GA4.out.l.on b5); clear b5))
                  go_roundw
                  case rel => exact ⟨j + 1, M2, s4, by omega, by omega, by go_num, Lib.hid (HL5.out.more (by omega)), HS4⟩
                  case measure => simp [intOf]; omega
              | false =>
                by_cases hxo : xo = o
                · subst hxo
                  go_wp2_with fail
                  try rw [hG]
                  try rw [hW1]
                  clear hW1
                  go_wp2_with (go_at_call 6; (with_reducible refine (CO.out _ _ _ _ GA.out.l HS2.out).mono ?_); rintro e w5 ⟨rfl, b5⟩; have HL5 := Lib.hid (GA.out.l.on b5); clear b5)
                  go_roundw
                  case rel => exact ⟨j + 1, M2, s2, by omega, by omega, by go_num, Lib.hid (HL5.out.more (by omega)), HS2⟩
                  case measure => simp [intOf]; omega
                · have hne : (xo != o) = true := by simp [hxo]
                  have CN := Lib.hid (GA.out.l.take_no (by omega) hwx.2 HS2.out HK.out hxo rfl)
                  go_wp2_with fail
                  try rw [hG]
                  try rw [hW1]
                  clear hW1
                  go_wp2_with (go_at_call 5; (with_reducible refine CN.out.mono ?_); rintro e w4 ⟨n4, r4, M4, rfl, hr4, L4, y4⟩; have GA4 := Lib.hid (GA.out.next L4 y4); obtain ⟨d1, d2, d3, d4⟩ := GA4.out.in_; have kk4 := FK.out _ L4.b; have CT4 := Lib.hid (GA4.out.l.take2 (by omega) xo hwx.2 xa xb rfl); clear L4 y4; rcases hr4 with rfl | rfl)
                  all_goals
                    go_wp2_with (first
                      | (go_at_call 5; (with_reducible refine CT4.out.mono ?_); rintro e w6 ⟨n6, r6, M6, s6, rfl, L6, k6, y6⟩; have HL6 := Lib.hid L6; have HS6 := Lib.hid (k6 _ _ HS2.out hxo); have kk6 := FK.out _ L6.b; clear L6 k6 y6)
                      | (go_at_call 6; (with_reducible refine (CO.out _ _ _ _ HL6.out HS6.out).mono ?_); rintro e w5 ⟨rfl, b5⟩; have HL5 := Lib.hid (HL6.out.on b5); clear b5))
                    go_roundw
                    case rel => exact ⟨j + 1, M6, s6, by omega, by omega, by go_num, Lib.hid (HL5.out.more (by omega)), HS6⟩
                    case measure => simp [intOf]; omega
            · have j2 : (40 : Int) ≤ (j : Int) := by omega
              have CK := Lib.hid (fun W => known_any W)
              have kk6 := FK.out _ HL2.out.b
              have CD : Hid (∀ W M s c, Lt (g + 1) W0 W M s c → s.f k = some o → ∀ H, H = W.heap.size → Calls Tryd.prog 4 #[.pointer (some ⟨g + 1, 0, none⟩), .int .i64 o, .slice (some ⟨H, 0, none⟩) 2 2] (W.alloc (.cells (kcs2 k k) 30)) fun e w' => e = .returned (.int .i64 1) ∧ Below (g + 1) W0 w') := Lib.hid fun W M s c h hs H hH => by
                have := h.drop2 o k k hH
                rw [D.It.drop_own hs] at this
                exact this.mono fun e w' ⟨s', h1, h2, _⟩ => ⟨h1, h2.b⟩
              go_wp2_with (first
                | (go_at_call 7; (with_reducible refine (CK.out _).mono ?_); rintro e w3 ⟨rfl, b3⟩; have HL3 := Lib.hid (HL2.out.on b3); have kk7 := FK.out _ HL3.out.b; clear b3)
                | (go_at_call 4; (with_reducible refine (CD.out _ _ _ _ HL3.out HS2.out _ rfl).mono ?_); rintro e w4 ⟨rfl, b4⟩))
              go_ret
              exact ⟨rfl, by rw [HG.out]; exact BW.out _ b4⟩
          · have j1 : (n2 : Int) ≤ (j : Int) := by omega
            have CK := Lib.hid (fun W => known_any W)
            have kk6 := FK.out _ HL2.out.b
            have CD : Hid (∀ W M s c, Lt (g + 1) W0 W M s c → s.f k = some o → ∀ H, H = W.heap.size → Calls Tryd.prog 4 #[.pointer (some ⟨g + 1, 0, none⟩), .int .i64 o, .slice (some ⟨H, 0, none⟩) 2 2] (W.alloc (.cells (kcs2 k k) 30)) fun e w' => e = .returned (.int .i64 1) ∧ Below (g + 1) W0 w') := Lib.hid fun W M s c h hs H hH => by
              have := h.drop2 o k k hH
              rw [D.It.drop_own hs] at this
              exact this.mono fun e w' ⟨s', h1, h2, _⟩ => ⟨h1, h2.b⟩
            go_wp2_with (first
              | (go_at_call 7; (with_reducible refine (CK.out _).mono ?_); rintro e w3 ⟨rfl, b3⟩; have HL3 := Lib.hid (HL2.out.on b3); have kk7 := FK.out _ HL3.out.b; clear b3)
              | (go_at_call 4; (with_reducible refine (CD.out _ _ _ _ HL3.out HS2.out _ rfl).mono ?_); rintro e w4 ⟨rfl, b4⟩))
            go_ret
            exact ⟨rfl, by rw [HG.out]; exact BW.out _ b4⟩
      · have HQ : Hid (q = 3 ∧ D.kright k = false ∨ q = 11 ∧ ∃ v, s.f k = some v ∧ v ≠ o) := Lib.hid (by
          have := HE.out
          unfold D.It.err at this
          split at this
          · rename_i hk
            split at this
            · rename_i v hv
              split at this
              · exact absurd this.symm hq0
              · rename_i hne
                exact .inr ⟨this.symm, v, hv, hne⟩
            · exact absurd this.symm hq0
          · rename_i hk
            exact .inl ⟨this.symm, by simpa using hk⟩)
        have CK := Lib.hid (fun W => known_any W)
        rcases HQ.out with ⟨rfl, hkr⟩ | ⟨rfl, v, hv, hvo⟩
        · have CR := Lib.hid (fun W => keyright_any k W)
          rw [hkr] at CR
          have CO : Hid (∀ W M s c, Lt (g + 1) W0 W M s c → ∃ v b, Calls Tryd.prog 6 #[.pointer (some ⟨g + 1, 0, none⟩), .agg (kS.v k)] W fun e w' => e = .returned (.tuple #[.int .i64 v, .bool b]) ∧ Below W.heap.size W w') := Lib.hid fun W M s c h => ⟨_, _, owner_any h.t k⟩
          have CT : Hid (Calls Tryd.prog 5 #[.pointer (some ⟨g + 1, 0, none⟩), .int .i64 o, .slice (some ⟨wr.heap.size, 0, none⟩) 1 1] (wr.alloc (.cells (kS.v k) 30)) fun e w' => ∃ (n : Int) (M' : Option Nat) (s' : D.It), e = .returned (.tuple #[.int .i64 n, .int .i64 3]) ∧ Lt (g + 1) W0 w' M' s' (2 * i + 1) ∧ (3 = 0 → s' = s.put k o) ∧ (3 ≠ 0 → s' = s) ∧ Stay (g + 1) M wr M' w') := CT
          clear HE HQ hkr
          go_wp2_with (first
            | (go_at_call 5; (with_reducible refine CT.out.mono ?_); rintro e w1 ⟨n, M1, s1, rfl, L1, _, _, _⟩; have HL1 := Lib.hid L1; have kk3 := FK.out _ L1.b; obtain ⟨v, b, hO⟩ := CO.out _ _ _ _ L1; have HO := Lib.hid hO; clear L1 hO)
            | (go_at_call 6; (with_reducible refine HO.out.mono ?_); rintro e w2 ⟨rfl, b2⟩; have HL2 := Lib.hid (HL1.out.on b2); clear b2)
            | (go_at_call 7; (with_reducible refine (CK.out _).mono ?_); rintro e w3 ⟨rfl, b3⟩; have HL3 := Lib.hid (HL2.out.on b3); have kk5 := FK.out _ HL3.out.b; clear b3)
            | (go_at_call 8; (with_reducible refine (CR.out _).mono ?_); rintro e w4 ⟨rfl, b4⟩; have HL4 := Lib.hid (HL3.out.on b4); clear b4))
          go_ret
          exact ⟨rfl, by rw [HG.out]; exact BW.out _ HL4.out.b⟩
        · have CO : Hid (∀ W M c, Lt (g + 1) W0 W M s c → Calls Tryd.prog 6 #[.pointer (some ⟨g + 1, 0, none⟩), .agg (kS.v k)] W fun e w' => e = .returned (.tuple #[.int .i64 v, .bool true]) ∧ Below W.heap.size W w') := Lib.hid fun W M c h => by
            have := owner_any h.t k
            rw [hv] at this
            exact this
          have CT : Hid (Calls Tryd.prog 5 #[.pointer (some ⟨g + 1, 0, none⟩), .int .i64 o, .slice (some ⟨wr.heap.size, 0, none⟩) 1 1] (wr.alloc (.cells (kS.v k) 30)) fun e w' => ∃ (n : Int) (M' : Option Nat) (s' : D.It), e = .returned (.tuple #[.int .i64 n, .int .i64 11]) ∧ Lt (g + 1) W0 w' M' s' (2 * i + 1) ∧ (11 = 0 → s' = s.put k o) ∧ (11 ≠ 0 → s' = s) ∧ Stay (g + 1) M wr M' w') := CT
          have hvn : (v != o) = true := by simp [hvo]
          clear HE HQ hv hvo
          go_wp2_with (first
            | (go_at_call 5; (with_reducible refine CT.out.mono ?_); rintro e w1 ⟨n, M1, s1, rfl, L1, _, e1, _⟩; obtain rfl := e1 (by decide); have HL1 := Lib.hid L1; have kk3 := FK.out _ L1.b; have HO := Lib.hid (CO.out _ _ _ L1); clear L1 e1)
            | (go_at_call 6; (with_reducible refine HO.out.mono ?_); rintro e w2 ⟨rfl, b2⟩; have HL2 := Lib.hid (HL1.out.on b2); clear b2)
            | (go_at_call 7; (with_reducible refine (CK.out _).mono ?_); rintro e w3 ⟨rfl, b3⟩; have HL3 := Lib.hid (HL2.out.on b3); clear b3))
          go_ret
          exact ⟨rfl, by rw [HG.out]; exact BW.out _ HL3.out.b⟩
end Go.Proofs.YtgobbdfgjgjigaaDoor
