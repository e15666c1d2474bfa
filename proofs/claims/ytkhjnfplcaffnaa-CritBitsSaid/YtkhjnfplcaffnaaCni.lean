/-
  A nil tree holds nothing.
-/
import Derived.Test.YtkhjnfplcaffnaaCnx
import Derived.Test.YtkhjnfplcaffnaaDh
import Derived.Defers
import Derived.Recover
set_option linter.unusedVariables false
set_option linter.unusedSimpArgs false
set_option maxRecDepth 100000
namespace Go.Proofs.Ytkhjnfplcaffnaa
open Go.RowKit Go.Shelf
attribute [local go_sem] Oper.semAt_some
attribute [local go_sem ↓] Go.wp_at_zero Go.wp_at_succ ld_k lv_k st_k eq_k ne_k bd_k ld_b lv_b st_b eq_b ne_b bd_25 ld_r lv_r st_rk eq_rk ne_rk bd_r ld_p lv_p st_px bd_p Nm.ld_a Nm.ld_n Nm.st_a Nm.st_n Nm.eq_a Nm.eq_n Nm.ne_a Nm.ne_n Nm.lv_a Nm.lv_n ld_a ld_n st_a st_n eq_a eq_n ne_a ne_n lv_a lv_n ld_l lv_l st_l bd_l bd_n bs_l bs_k
attribute [local go_sem] run_ldk run_lvk run_stk run_eqk run_nek run_bdk_z run_ldb run_lvb run_stb run_eqb run_neb run_ldr run_lvr run_strk run_eqrk run_nerk run_bdr_z run_ldp run_lvp run_stpx Nm.run_ld_a Nm.run_ld_n Nm.run_st_n Nm.run_eq_a Nm.run_eq_n Nm.run_ne_a Nm.run_ne_n Nm.run_lv_a Nm.run_lv_n Nm.rd_new Nm.rd_old Nm.rd_drew Nm.rd_drewN run_ld_a run_ld_n run_sw_a run_sw_n run_eq_a run_eq_n run_ne_a run_ne_n run_lv_a run_lv_n st_z ne_z eq_z rd_new rd_old rd_drew rd_drewN Shp.rd_new Shp.rd_old Shp.rd_drew Shp.rd_drewN Shp.rd_set Shp.tn_new Shp.tn_old Shp.tn_drew Shp.tn_drewN tn_new tn_old tn_drew tn_drewN rd_set setRow_alloc run_stn3 run_stt15 run_lvl run_ldl run_stl run_bdl run_bdn run_bdn0 run_bsl run_bsk Shp.rd_extk cell_ext
set_option maxHeartbeats 4000000 in
theorem apps_nil (B : Nat) (w : World) (hb : w.cell? ⟨B, 0, none⟩ = some (.pointer none)) : Calls Try.prog 62 #[.slice none 0 0, .func (.func 53) #[] #[.pointer (some ⟨B, 0, none⟩)]] w fun e w' => e = .returned (.slice none 0 0) ∧ Below w.heap.size w w' := by
  refine (callsIn_wide (n := 10)).1 ?_
  refine callsIn_of_wp_marks Try.func62 rfl trivial ?_ rfl
  simp only [Try.ntmps62, List.size_toArray, List.length_cons, List.length_nil, Nat.reduceAdd, Nat.reduceSub, Array.replicate_succ, Array.replicate_zero, List.push_toArray, List.append_toArray, List.nil_append, List.cons_append]
  gi_wp2
  have hB := Blk.new w 114 #[.slice none 0 0]
  have hbel : Below w.heap.size w (w.alloc (.cells #[.slice none 0 0] 114)) := below_alloc_ _ _
  have hb3 := cell_kept_ hbel hb
  obtain ⟨gb, hgb⟩ : ∃ gb, w.heap.size = gb := ⟨_, rfl⟩
  obtain ⟨w3, hw3⟩ : ∃ w3, w.alloc (.cells #[.slice none 0 0] 114) = w3 := ⟨_, rfl⟩
  rw [hw3] at hB hbel hb3
  rw [hgb] at hB
  try rw [hw3]
  try rw [hgb]
  clear hw3
  refine wpIn_rangeFunc_ownH rfl (by decide) (gf := 53) (lb := #[.pointer (some ⟨B, 0, none⟩)]) rfl trivial (enters_of Try.func53 (by kernel_rfl) rfl)
    (wi_stops 9 (by decide) B w3.heap.size [gb] none w3 hb3 (fun t e => by cases e)) (fun h k => h.trans k) (fun W l o o' h1 h2 h3 _ => Kp.put W l o o' h1 h2 h3) (Below.refl _ _) (fun _ => rfl)
    (fun pre W => Ov w3.heap.size [gb] w3 W ∧ Blk W gb 114 #[.slice none 0 0]) (fun _ _ _ => False)
    (fun s W W' row hs hg hr => ⟨hs.1.grown (Nat.le_refl _) hg fun r e => .inl (hr r e).1, (blk_own (fun _ : List Lf => #[.slice none 0 0])) s W W' row hs.2 hg hr⟩) (fun _ _ _ _ _ hs _ _ => hs) ⟨Ov.refl _ _ _, hB⟩
    (fun y a' W => True) (fun _ _ _ _ _ _ hs _ _ => hs) ?assign ?body ?done ?stop
  case assign =>
    rintro l pre y W K ⟨hO, hB⟩ hK
    have hsz := hO.size
    gi_wp2
    exact hK _ _ ((KeepsOthers.alloc _ _).from _) (Kp.below (below_alloc_ _ _) hsz) ⟨hO.on (Nat.le_refl _) (below_alloc_ _ _), hB.alloc _⟩ trivial
  case body =>
    rintro l pre y a' W hl _ _ _ hlt
    exact absurd hlt (by simp [Cr.Tr.lso])
  case done =>
    rintro D0 ys W hD hp ⟨hO, hB2⟩ hK
    have hc := hB2.cell
    have hfin := hbel.trans ((hO.put hD (.deferred none)).below (b := w.heap.size) hbel.size (fun x hx => by simp at hx; omega))
    gi_wp2
    refine ⟨by simp, .inl ⟨_, _, rfl, run_takeDeferred hK, ?_⟩⟩
    exact ⟨_, results_tmp rfl _ _ _, rfl, hfin⟩
  case stop =>
    rintro D0 c pre W _ _ h _
    exact h.elim
theorem coll_nil (B : Nat) (w : World) (hb : w.cell? ⟨B, 0, none⟩ = some (.pointer none)) : Calls Try.prog 49 #[.func (.func 53) #[] #[.pointer (some ⟨B, 0, none⟩)]] w fun e w' => e = .returned (.slice none 0 0) ∧ Below w.heap.size w w' := by
  have C := Lib.hid (apps_nil B w hb)
  clear hb
  go_enter Try.func49, Try.ntmps49
  go_wp2_with (go_at_call 62; (with_reducible refine C.out.mono ?_); rintro e w1 ⟨rfl, b1⟩)
  go_ret
  exact ⟨rfl, b1⟩
theorem tfirst_nil (w : World) : Calls Try.prog 21 #[.pointer none] w fun e w' => e = .returned (.tuple #[.agg (kS.v D.zK), .bool false]) ∧ Below w.heap.size w w' := by
  obtain ⟨w0, hw0⟩ : ∃ w0, w.alloc (.cells z25 30) = w0 := ⟨_, rfl⟩
  have b0 : Below w.heap.size w w0 := by rw [← hw0]; exact below_alloc_ _ _
  have k0 : Shp.tn 25 w0 w.heap.size = true := by rw [← hw0]; exact Shp.tn_new _ _ _ _ _ rfl rfl
  unfold z25 at hw0
  have CF := Lib.hid (show ∀ w : World, Calls Try.prog 37 #[.pointer none] w fun e w' => e = .returned (.tuple #[.agg (kS.v D.zK), .bool false]) ∧ Below w.heap.size w w' from fun w => first_any none w (fun t e => by cases e))
  go_enter Try.func21, Try.ntmps21
  go_wp2_with fail
  try rw [hw0]
  clear hw0
  go_wp2_with (first
    | (go_at_call 44; (with_reducible refine (top_nil _).mono ?_); rintro e w1 ⟨rfl, hw1⟩; have b1 : Below w0.heap.size w0 w1 := by { rw [hw1]; exact below_alloc_ _ _ }; have hc : w1.cell? ⟨w0.heap.size, 0, none⟩ = some (.pointer none) := by { rw [hw1]; exact (Blk.new w0 _ _).cell }; clear hw1; have k1 := Shp.tn_on k0 b1; have z1 := below_up b0 b0.size b1)
    | (go_at_call 37; refine (CF.out _).mono ?_; rintro e w2 ⟨rfl, b2⟩; have k2 := Shp.tn_on k1 b2; have z2 := below_up z1 z1.size b2))
  have hset := Shp.rd_set (S := kS) w2 w.heap.size D.zK k2
  refine bodyPost_ret (v := .tuple #[.agg (kS.v D.zK), .bool false]) (by rw [results_ct rfl]; simp [asAddr, Result.andThen, lvk_of hset] <;> rfl) rfl ⟨rfl, below_setRow z2 (Nat.le_refl _) _⟩
theorem branch_nil (k : D.Ky) (w : World) : Calls Try.prog 25 #[.pointer none, .agg (kS.v k)] w fun e w' => e = .returned (.slice none 0 0) ∧ Below w.heap.size w w' := by
  have b0 := below_alloc_ w (.cells (kS.v k) 30)
  have CH := Lib.hid (fun w => held_nil k w)
  refine (callsIn_wide (n := 10)).1 ?_
  refine callsIn_of_wp_marks Try.func25 rfl trivial ?_ rfl
  simp only [Try.ntmps25, List.size_toArray, List.length_cons, List.length_nil, Nat.reduceAdd, Nat.reduceSub, Array.replicate_succ, Array.replicate_zero, List.push_toArray, List.append_toArray, List.nil_append, List.cons_append]
  gi_wp2
  refine ⟨trivial, ?_⟩
  refine (callsIn_wide.2 (CH.out _)).mono ?_
  rintro e w1 ⟨rfl, b1⟩
  have z1 := below_up b0 b0.size b1
  gi_wp2
  exact ⟨_, results_tmp rfl _ _ _, rfl, z1⟩
theorem del_nil (k : D.Ky) (b c : Nat) (w : World) (hk : kS.rd w ⟨b, 0, none⟩ = some k) : Calls Try.prog 9 #[.pointer none, .slice (some ⟨b, 0, none⟩) 1 c] w fun e w' => e = .returned (.int .i64 0) ∧ Below w.heap.size w w' := by
  have CH := Lib.hid (fun w => held_nil k w)
  go_enter Try.func9, Try.ntmps9
  go_wp2
  go_loopw [5, 7, 10] (fun m _ i wr => ∃ j : Nat, j ≤ 1 ∧ m = .int .i64 0 ∧ i = .int .i64 j ∧ Below w.heap.size w wr) (fun _ _ i _ => 1 - (intOf i).toNat)
  case atStart => exact ⟨0, Nat.zero_le _, rfl, rfl, Below.refl _ _⟩
  case round =>
    obtain ⟨j, hj, rfl, rfl, hb⟩ := hrel
    obtain rfl | rfl : j = 0 ∨ j = 1 := by omega
    · have hk2 := Shp.rd_on hk hb
      have b0 := hb.alloc hb.size (.cells (kS.v k) 30)
      go_wp2_with (go_at_call 28; (with_reducible refine (CH.out _).mono ?_); rintro e w1 ⟨rfl, b1⟩; have z1 := below_up b0 b0.size b1)
      go_roundw
      case rel => exact ⟨1, Nat.le_refl _, rfl, by go_num, z1⟩
      case measure => simp [intOf]
    · go_wp2
      go_ret
      exact ⟨rfl, hb⟩
theorem place_nil8 (k : D.Ky) (n : Nat) (hn : n ≤ 25) (w : World) : Calls Try.prog 35 #[.pointer none, .agg (kS.v k), .int .i64 (8 * (n : Int))] w fun e w' => ∃ kt : Nat, e = .returned (.pointer (some ⟨kt, 0, none⟩)) ∧ w.heap.size ≤ kt ∧ Blk w' kt 73 #[.pointer none] ∧ Below w.heap.size w w' := by
  have := place_nil k (8 * n) (by omega) w
  rwa [show ((8 * n : Nat) : Int) = 8 * (n : Int) by omega] at this
set_option maxHeartbeats 8000000 in
theorem keys_nil (q : D.Px) (w : World) : Calls Try.prog 17 #[.pointer none, .agg (pS.v q)] w fun e w' => e = .returned (.slice none 0 0) ∧ Below w.heap.size w w' := by
  obtain ⟨w0, hw0⟩ : ∃ w0, w.alloc (.cells (pS.v q) 52) = w0 := ⟨_, rfl⟩
  have p0 : pS.rd w0 ⟨w.heap.size, 0, none⟩ = some q := by rw [← hw0]; exact Shp.rd_new _ _ _ _ rfl
  have b0 : Below w.heap.size w w0 := by rw [← hw0]; exact below_alloc_ _ _
  obtain ⟨x0, _⟩ := pf0 p0
  have CB := Lib.hid (fun w => pbytes_any q w)
  have hn := D.ends_le q.d
  have hlen : (q.x.l.take (D.ends q.d)).length = D.ends q.d := by rw [List.length_take, q.x.len]; omega
  have CP := Lib.hid (fun w => place_nil8 q.x (D.ends q.d) hn w)
  have CF := Lib.hid (show ∀ w : World, Calls Try.prog 37 #[.pointer none] w fun e w' => e = .returned (.tuple #[.agg (kS.v D.zK), .bool false]) ∧ Below w.heap.size w w' from fun w => first_any none w (fun t e => by cases e))
  have CH := Lib.hid (fun w => has_any q D.zK w)
  have CW := Lib.hid (fun w => within_any none w)
  obtain ⟨hb, hhb⟩ : ∃ hb, D.has q.x q.d D.zK = hb := ⟨_, rfl⟩
  rw [hhb] at CH
  obtain ⟨n, hnn⟩ : ∃ n, D.ends q.d = n := ⟨_, rfl⟩
  rw [hnn] at hn hlen CP CB
  clear hhb hnn
  have i0 : (0 : Int) ≤ (n : Int) := by omega
  have i1 : (n : Int) ≤ 25 := by omega
  have hw8 : IntKind.i64.wrap (8 * (n : Int)) = 8 * (n : Int) := by
    simp only [IntKind.wrap, IntKind.bits, IntKind.signed]
    simp
    omega
  refine (callsIn_wide (n := 10)).1 ?_
  refine callsIn_of_wp_marks Try.func17 rfl trivial ?_ rfl
  simp only [Try.ntmps17, List.size_toArray, List.length_cons, List.length_nil, Nat.reduceAdd, Nat.reduceSub, Array.replicate_succ, Array.replicate_zero, List.push_toArray, List.append_toArray, List.nil_append, List.cons_append]
  gi_wp2
  try rw [hw0]
  clear hw0
  refine wpIn_wide.2 ?_
  refine wp_region_noPanic ?_
  have sd : Below w0.heap.size w0 w0.drew := (Below.refl _ _).drew
  refine wp_region_held_drew (S := fun V => Below w0.heap.size w0 V) (by kernel_rfl) sd (fun _ => ?_)
  refine takeS 0 (some 10) ?vr0 (by kernel_rfl) (by kernel_rfl) (by kernel_rfl) (by kernel_rfl) (fun _ _ _ h => h) (by rfl) ?hyr0 sd ?restr0
  case hyr0 => (intro o ho W hW; simp only [List.getElem?_toArray, List.getElem?_cons_succ, List.getElem?_cons_zero, Option.some.injEq] at ho; subst ho; (try dsimp only at hW); skip; go_simp; try rfl)
  try simp only [Act.put, List.setIfInBounds_toArray, List.set_cons_zero, List.set_cons_succ]
  refine takeS 1 (some 11) ?vr1 (by kernel_rfl) (by kernel_rfl) (by kernel_rfl) (by kernel_rfl) (fun _ _ _ h => h) (by rfl) ?hyr1 sd ?restr1
  case hyr1 => (intro o ho W hW; simp only [List.getElem?_toArray, List.getElem?_cons_succ, List.getElem?_cons_zero, Option.some.injEq] at ho; subst ho; (try dsimp only at hW); skip; go_simp; try rfl)
  try simp only [Act.put, List.setIfInBounds_toArray, List.set_cons_zero, List.set_cons_succ]
  refine takeS 2 (some 12) ?vr2 (by kernel_rfl) (by kernel_rfl) (by kernel_rfl) (by kernel_rfl) (fun _ _ _ h => h) (by rfl) ?hyr2 sd ?restr2
  case hyr2 => (intro o ho W hW; simp only [List.getElem?_toArray, List.getElem?_cons_succ, List.getElem?_cons_zero, Option.some.injEq] at ho; subst ho; (try dsimp only at hW); have g1 := Shp.rd_on x0 hW; go_simp; try rfl)
  try simp only [Act.put, List.setIfInBounds_toArray, List.set_cons_zero, List.set_cons_succ]
  refine takeS 3 (some 13) ?vr3 (by kernel_rfl) (by kernel_rfl) (by kernel_rfl) (by kernel_rfl) (fun _ _ _ h => h) (by rfl) ?hyr3 sd ?restr3
  case hyr3 => (intro o ho W hW; simp only [List.getElem?_toArray, List.getElem?_cons_succ, List.getElem?_cons_zero, Option.some.injEq] at ho; subst ho; (try dsimp only at hW); have g2 := Shp.rd_on p0 hW; go_simp; try rfl)
  try simp only [Act.put, List.setIfInBounds_toArray, List.set_cons_zero, List.set_cons_succ]
  refine nextS 4 (by kernel_rfl) (by rfl) (fun o ho K hK => ?_)
  simp only [List.getElem?_toArray, List.getElem?_cons_succ, List.getElem?_cons_zero, Option.some.injEq] at ho; subst ho
  go_simp
  (go_at_call 36; (with_reducible refine (CB.out _).mono ?_); rintro e w1 ⟨A, c, rfl, ho, b1⟩)
  rw [hlen]
  have s4 : Below w0.heap.size w0 w1 := below_up sd sd.size b1
  refine hK.out _ _ s4 (fun _ => ?_)
  clear hK K
  try simp only [Act.put, List.setIfInBounds_toArray, List.set_cons_zero, List.set_cons_succ]
  refine takeS 5 (some 15) ?vr5 (by kernel_rfl) (by kernel_rfl) (by kernel_rfl) (by kernel_rfl) (fun _ _ _ h => h) (by rfl) ?hyr5 s4 ?restr5
  case hyr5 => (intro o ho W hW; simp only [List.getElem?_toArray, List.getElem?_cons_succ, List.getElem?_cons_zero, Option.some.injEq] at ho; subst ho; (try dsimp only at hW); skip; go_simp; try rfl)
  try simp only [Act.put, List.setIfInBounds_toArray, List.set_cons_zero, List.set_cons_succ]
  refine takeS 6 (some 16) (.int .i64 (8 * (n : Int))) (by kernel_rfl) (by kernel_rfl) (by kernel_rfl) (by kernel_rfl) (fun _ _ _ h => h) (by rfl) ?hyr6 s4 ?restr6
  case hyr6 => (intro o ho W hW; simp only [List.getElem?_toArray, List.getElem?_cons_succ, List.getElem?_cons_zero, Option.some.injEq] at ho; subst ho; (try dsimp only at hW); skip; go_simp; try rfl)
  try simp only [Act.put, List.setIfInBounds_toArray, List.set_cons_zero, List.set_cons_succ]
  refine nextS 7 (by kernel_rfl) (by rfl) (fun o ho K hK => ?_)
  simp only [List.getElem?_toArray, List.getElem?_cons_succ, List.getElem?_cons_zero, Option.some.injEq] at ho; subst ho
  go_simp
  (go_at_call 35; (with_reducible refine (CP.out _).mono ?_); rintro e w2 ⟨kt, rfl, hk2, hB2, b2⟩)
  have s7 : Below w0.heap.size w0 w2 := below_up s4 s4.size b2
  have hc2 := hB2.cell
  refine hK.out _ _ s7 (fun _ => ?_)
  clear hK K
  try simp only [Act.put, List.setIfInBounds_toArray, List.set_cons_zero, List.set_cons_succ]
  refine takeS 8 (some 18) ?vr8 (by kernel_rfl) (by kernel_rfl) (by kernel_rfl) (by kernel_rfl) (fun _ _ _ h => h) (by rfl) ?hyr8 s7 ?restr8
  case hyr8 => (intro o ho W hW; simp only [List.getElem?_toArray, List.getElem?_cons_succ, List.getElem?_cons_zero, Option.some.injEq] at ho; subst ho; (try dsimp only at hW); skip; go_simp; try rfl)
  try simp only [Act.put, List.setIfInBounds_toArray, List.set_cons_zero, List.set_cons_succ]
  refine nextS 9 (by kernel_rfl) (by rfl) (fun o ho K hK => ?_)
  simp only [List.getElem?_toArray, List.getElem?_cons_succ, List.getElem?_cons_zero, Option.some.injEq] at ho; subst ho
  go_simp
  refine hK.out _ _ s7 (fun _ => ?_)
  clear hK K
  try simp only [Act.put, List.setIfInBounds_toArray, List.set_cons_zero, List.set_cons_succ]
  refine takeS 10 (some 5) ?vr10 (by kernel_rfl) (by kernel_rfl) (by kernel_rfl) (by kernel_rfl) (fun _ _ _ h => h) (by rfl) ?hyr10 s7 ?restr10
  case hyr10 => (intro o ho W hW; simp only [List.getElem?_toArray, List.getElem?_cons_succ, List.getElem?_cons_zero, Option.some.injEq] at ho; subst ho; (try dsimp only at hW); skip; go_simp; try rfl)
  try simp only [Act.put, List.setIfInBounds_toArray, List.set_cons_zero, List.set_cons_succ]
  refine wpAnyH_done (by kernel_rfl) ?_ _
  refine NoPanic.normal ?_
  have p2 := Shp.rd_on p0 s7
  have z2 := below_up b0 b0.size s7
  clear x0 p0 s7 s4 sd
  gi_wp2
  refine ⟨trivial, ?_⟩
  refine (callsIn_wide.2 (CF.out _)).mono ?_
  rintro e w3 ⟨rfl, b3⟩
  have p3 := Shp.rd_on p2 b3
  have z3 := below_up z2 z2.size b3
  clear p2 hc2 b3
  obtain ⟨w4, hw4⟩ : ∃ w4, w3.alloc (.cells (kS.v D.zK) 30) = w4 := ⟨_, rfl⟩
  have b4 : Below w3.heap.size w3 w4 := by rw [← hw4]; exact below_alloc_ _ _
  have p4 := Shp.rd_on p3 b4
  have k4 : kS.rd w4 ⟨w3.heap.size, 0, none⟩ = some D.zK := by rw [← hw4]; exact Shp.rd_new _ _ _ _ rfl
  have z4 := below_up z3 z3.size b4
  clear p3 b4
  gi_wp2
  try rw [hw4]
  clear hw4
  refine ⟨trivial, ?_⟩
  refine (callsIn_wide.2 (CH.out _)).mono ?_
  rintro e w5 ⟨rfl, b5⟩
  have z5 := below_up z4 z4.size b5
  clear p4 k4 b5
  cases hb with
  | false =>
    gi_wp2
    exact ⟨_, results_tmp rfl _ _ _, rfl, z5⟩
  | true =>
    obtain ⟨gb, hgb⟩ : ∃ gb, w5.heap.size = gb := ⟨_, rfl⟩
    obtain ⟨w6, hw6⟩ : ∃ w6, w5.alloc (.cells #[.slice none 0 0] 55) = w6 := ⟨_, rfl⟩
    have b6 : Below w5.heap.size w5 w6 := by rw [← hw6]; exact below_alloc_ _ _
    have B6 : Blk w6 gb 55 #[.slice none 0 0] := by rw [← hw6, ← hgb]; exact Blk.new _ _ _
    have z6 := below_up z5 z5.size b6
    have hgz : w.heap.size ≤ gb := by rw [← hgb]; exact z5.size
    clear z5
    gi_wp2
    try rw [hw6]
    try rw [hgb]
    clear hw6
    refine ⟨trivial, ?_⟩
    refine (callsIn_wide.2 (CW.out _)).mono ?_
    rintro e w7 ⟨rfl, hw7⟩
    have b7 : Below w6.heap.size w6 w7 := by rw [hw7]; exact below_alloc_ _ _
    have hb7 : w7.cell? ⟨w6.heap.size, 0, none⟩ = some (.pointer none) := by rw [hw7]; exact (Blk.new w6 _ _).cell
    clear hw7
    have B7 := B6.on b7
    have z7 := below_up z6 z6.size b7
    gi_wp2
    refine wpIn_rangeFunc_ownH rfl (by decide) (gf := 53) (lb := #[.pointer (some ⟨w6.heap.size, 0, none⟩)]) rfl trivial (enters_of Try.func53 (by kernel_rfl) rfl)
      (wi_stops 9 (by decide) w6.heap.size w7.heap.size [gb] none w7 hb7 (fun t e => by cases e)) (fun h k => h.trans k) (fun W l o o' h1 h2 h3 _ => Kp.put W l o o' h1 h2 h3) (Below.refl _ _) (fun _ => rfl)
      (fun pre W => Ov w7.heap.size [gb] w7 W ∧ Blk W gb 55 #[.slice none 0 0]) (fun _ _ _ => False)
      (fun s W W' row hs hg hr => ⟨hs.1.grown (Nat.le_refl _) hg fun r e => .inl (hr r e).1, (blk_own (fun _ : List Lf => #[.slice none 0 0])) s W W' row hs.2 hg hr⟩) (fun _ _ _ _ _ hs _ _ => hs) ⟨Ov.refl _ _ _, B7⟩
      (fun y a' W => True) (fun _ _ _ _ _ _ hs _ _ => hs) ?assign ?body ?done ?stop
    case assign =>
      rintro l pre y W K ⟨hO, hB⟩ hK
      have hsz := hO.size
      gi_wp2
      exact hK _ _ ((KeepsOthers.alloc _ _).from _) (Kp.below (below_alloc_ _ _) hsz) ⟨hO.on (Nat.le_refl _) (below_alloc_ _ _), hB.alloc _⟩ trivial
    case body =>
      rintro l pre y a' W hl _ _ _ hlt
      exact absurd hlt (by simp [Cr.Tr.lso])
    case done =>
      rintro D0 ys W hD hp ⟨hO, hB2⟩ hK
      have hc := hB2.cell
      have hfin := z7.trans ((hO.put hD (.deferred none)).below (b := w.heap.size) z7.size (fun x hx => by simp at hx; omega))
      gi_wp2
      refine ⟨by simp, .inl ⟨_, _, rfl, run_takeDeferred hK, ?_⟩⟩
      exact ⟨_, results_tmp rfl _ _ _, rfl, hfin⟩
    case stop =>
      rintro D0 c pre W _ _ h _
      exact h.elim
end Go.Proofs.Ytkhjnfplcaffnaa
