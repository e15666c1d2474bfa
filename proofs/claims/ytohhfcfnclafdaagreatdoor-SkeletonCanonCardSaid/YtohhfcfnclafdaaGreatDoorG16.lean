/-
  The program's rulesOf, of ru, uk, sr.
  The program's rulesOf, of pl, cs, sk, ar.
  The program's rulesOf, of any text.
-/
import Derived.Test.YtohhfcfnclafdaaGreatDoorG13
import Derived.Test.YtohhfcfnclafdaaGreatDoorG08
import Derived.Test.YtohhfcfnclafdaaGreatDoorG15
set_option linter.unusedVariables false
set_option linter.unusedSimpArgs false
set_option maxRecDepth 100000
namespace Go.Proofs.YtohhfcfnclafdaaGreatDoor
open Go.RowKit
attribute [local go_sem ↓] Go.wp_at_zero Go.wp_at_succ st_u bd_u
attribute [local go_sem] run_stu run_bdu
set_option maxHeartbeats 4000000 in
theorem rules_l8 (s : ByteArray) (w : World) (h : Tst s fun j => decide (j = 8 ∨ 16 ≤ j)) : Calls Tryz.prog 122 #[.string s] w fun e w' => ∃ A n c, e = .returned (.slice A n c) ∧ RR w' A n (D.rls 3) ∧ n ≤ c ∧ Below w.heap.size w w' := by
  obtain ⟨t0, t1, t2, t3, t4, t5, t6, t7, t8, t9, t10, t11, t12, t13, t14, t15⟩ := h
  replace t0 := t0.trans (by decide : _ = false)
  replace t1 := t1.trans (by decide : _ = false)
  replace t2 := t2.trans (by decide : _ = false)
  replace t3 := t3.trans (by decide : _ = false)
  replace t4 := t4.trans (by decide : _ = false)
  replace t5 := t5.trans (by decide : _ = false)
  replace t6 := t6.trans (by decide : _ = false)
  replace t7 := t7.trans (by decide : _ = false)
  replace t8 := t8.trans (by decide : _ = true)
  replace t9 := t9.trans (by decide : _ = false)
  replace t10 := t10.trans (by decide : _ = false)
  replace t11 := t11.trans (by decide : _ = false)
  replace t12 := t12.trans (by decide : _ = false)
  replace t13 := t13.trans (by decide : _ = false)
  replace t14 := t14.trans (by decide : _ = false)
  replace t15 := t15.trans (by decide : _ = false)
  go_enter Tryz.func122, Tryz.ntmps122
  go_wp2_with (first
    | (go_at_call 162; (with_reducible refine (am_11 w).mono ?_); rintro e w1 ⟨v1, g1, h1, rfl, f1, o1, b1⟩; have z1 := (Fw.self w).on b1)
    | (go_at_call 162; (with_reducible refine (am_24 (w1.alloc _)).mono ?_); rintro e w2 ⟨v2, g2, h2, rfl, f2, o2, b2⟩; have f1_2 := (f1.on (below_alloc_ w1 (.cells #[.int .i64 1, v1] 217))).on b2; have B_2 := (Blk.new w1 217 #[.int .i64 1, v1]).on b2; have z2 := (((z1).alloc (.cells #[.int .i64 1, v1] 217))).on b2)
    | (go_at_call 164; (with_reducible refine (re_10 _ _ _ _ _ _ f2).mono ?_); rintro e w3 ⟨v3, g3, h3, rfl, f3, o3, b3⟩; have f1_3 := f1_2.on b3; have B_3 := B_2.on b3; have f2_3 := f2.on b3; have z3 := (z2).on b3)
    | (go_at_call 162; (with_reducible refine (am_1214 _).mono ?_); rintro e w4 ⟨v4, g4, h4, rfl, f4, o4, b4⟩; have f1_4 := f1_3.on b4; have B_4 := B_3.on b4; have f2_4 := f2_3.on b4; have f3_4 := f3.on b4; have z4 := (z3).on b4)
    | (go_at_call 164; (with_reducible refine (re_100 _ _ _ _ _ _ f4).mono ?_); rintro e w5 ⟨v5, g5, h5, rfl, f5, o5, b5⟩; have f1_5 := f1_4.on b5; have B_5 := B_4.on b5; have f2_5 := f2_4.on b5; have f3_5 := f3_4.on b5; have f4_5 := f4.on b5; have z5 := (z4).on b5)
    | (go_at_call 163; (with_reducible refine (but_any _ _ _ _ _ _ _ _ _ _ _ _ _ _ _ _ _ f3_5 f5).mono ?_); rintro e w6 ⟨v6, g6, h6, rfl, f6, o6, b6⟩; have f1_6 := f1_5.on b6; have B_6 := B_5.on b6; have f2_6 := f2_5.on b6; have f3_6 := f3_5.on b6; have f4_6 := f4_5.on b6; have f5_6 := f5.on b6; have z6 := (z5).on b6)
    | (go_at_call 162; (with_reducible refine (am_1119 _).mono ?_); rintro e w7 ⟨v7, g7, h7, rfl, f7, o7, b7⟩; have f1_7 := (f1_6.on (below_alloc_ w6 (.cells #[.int .i64 3, v6] 217))).on b7; have B_7 := (B_6.on (below_alloc_ w6 (.cells #[.int .i64 3, v6] 217))).on b7; have f2_7 := (f2_6.on (below_alloc_ w6 (.cells #[.int .i64 3, v6] 217))).on b7; have f3_7 := (f3_6.on (below_alloc_ w6 (.cells #[.int .i64 3, v6] 217))).on b7; have f4_7 := (f4_6.on (below_alloc_ w6 (.cells #[.int .i64 3, v6] 217))).on b7; have f5_7 := (f5_6.on (below_alloc_ w6 (.cells #[.int .i64 3, v6] 217))).on b7; have f6_7 := (f6.on (below_alloc_ w6 (.cells #[.int .i64 3, v6] 217))).on b7; have C_7 := (Blk.new w6 217 #[.int .i64 3, v6]).on b7; have z7 := (((z6).alloc (.cells #[.int .i64 3, v6] 217))).on b7)
    | (go_at_call 164; (with_reducible refine (re_100 _ _ _ _ _ _ f7).mono ?_); rintro e w8 ⟨v8, g8, h8, rfl, f8, o8, b8⟩; have f1_8 := f1_7.on b8; have B_8 := B_7.on b8; have f2_8 := f2_7.on b8; have f3_8 := f3_7.on b8; have f4_8 := f4_7.on b8; have f5_8 := f5_7.on b8; have f6_8 := f6_7.on b8; have C_8 := C_7.on b8; have f7_8 := f7.on b8; have z8 := (z7).on b8)
    | fail)
  clear t0 t1 t2 t3 t4 t5 t6 t7 t8 t9 t10 t11 t12 t13 t14 t15
  have s8 : (fun W => Blk W w6.heap.size 217 #[.int .i64 3, v6]) w8.drew := ⟨C_8.out⟩
  refine wp_region_noPanic ?_
  refine wp_region_held_drew (S := (fun W => Blk W w6.heap.size 217 #[.int .i64 3, v6])) (by kernel_rfl) s8 (fun _ => ?_)
  obtain ⟨wd, hwd⟩ : ∃ wd, w8.drew = wd := ⟨_, rfl⟩
  rw [hwd] at s8
  rw [hwd]
  have bd : Below w8.heap.size w8 wd := by rw [← hwd]; exact (Below.refl _ _).drew
  clear hwd
  have f1_d := f1_8.on bd
  have f6_d := f6_8.on bd
  have B_d := B_8.on bd
  have C_d := C_8.on bd
  have zd := (z8).on bd
  have sN := s8
  clear s8
  refine takeS 6 (some 40) (.agg #[.int .i64 3, v6]) (by kernel_rfl) (by kernel_rfl) (by kernel_rfl) (by kernel_rfl) (fun _ _ _ h => h) (by rfl) ?hya16 sN ?resta16
  case hya16 => (intro o ho W hW; simp only [List.getElem?_toArray, List.getElem?_cons_succ, List.getElem?_cons_zero, Option.some.injEq] at ho; subst ho; (try dsimp only at hW); have q0 := (hW).c 0; have q1 := (hW).c 1; simp only [List.getElem?_toArray, List.getElem?_cons_succ, List.getElem?_cons_zero] at q0 q1; go_simp; try rfl)
  try simp only [Act.put, List.setIfInBounds_toArray, List.set_cons_zero, List.set_cons_succ]
  refine nextS 0 (by kernel_rfl) (by rfl) (fun o ho K hK => ?_)
  simp only [List.getElem?_toArray, List.getElem?_cons_succ, List.getElem?_cons_zero, Option.some.injEq] at ho; subst ho
  go_simp
  (go_at_call 162; (with_reducible refine (am_11 _).mono ?_); rintro e w9 ⟨v9, g9, h9, rfl, f9, o9, b9⟩)
  have f1_9 := f1_d.on b9
  have B_9 := B_d.on b9
  have f6_9 := f6_d.on b9
  have C_9 := C_d.on b9
  have z9 := (zd).on b9
  have sM : (fun W => Blk W w6.heap.size 217 #[.int .i64 3, v6]) w9 := C_9
  refine hK.out _ _ sM (fun _ => ?_)
  clear hK K
  try simp only [Act.put, List.setIfInBounds_toArray, List.set_cons_zero, List.set_cons_succ]
  clear sN
  have sN := sM
  clear sM
  refine nextS 1 (by kernel_rfl) (by rfl) (fun o ho K hK => ?_)
  simp only [List.getElem?_toArray, List.getElem?_cons_succ, List.getElem?_cons_zero, Option.some.injEq] at ho; subst ho
  go_simp
  (go_at_call 164; (with_reducible refine (re_10 _ _ _ _ _ _ f9).mono ?_); rintro e w10 ⟨v10, g10, h10, rfl, f10, o10, b10⟩)
  have f1_10 := f1_9.on b10
  have B_10 := B_9.on b10
  have f6_10 := f6_9.on b10
  have C_10 := C_9.on b10
  have f9_10 := f9.on b10
  have z10 := (z9).on b10
  have sM : (fun W => Blk W w6.heap.size 217 #[.int .i64 3, v6]) w10 := C_10
  refine hK.out _ _ sM (fun _ => ?_)
  clear hK K
  try simp only [Act.put, List.setIfInBounds_toArray, List.set_cons_zero, List.set_cons_succ]
  clear sN
  have sN := sM
  clear sM
  refine nextS 2 (by kernel_rfl) (by rfl) (fun o ho K hK => ?_)
  simp only [List.getElem?_toArray, List.getElem?_cons_succ, List.getElem?_cons_zero, Option.some.injEq] at ho; subst ho
  go_simp
  (go_at_call 162; (with_reducible refine (am_1111 _).mono ?_); rintro e w11 ⟨v11, g11, h11, rfl, f11, o11, b11⟩)
  have f1_11 := f1_10.on b11
  have B_11 := B_10.on b11
  have f6_11 := f6_10.on b11
  have C_11 := C_10.on b11
  have f9_11 := f9_10.on b11
  have f10_11 := f10.on b11
  have z11 := (z10).on b11
  have sM : (fun W => Blk W w6.heap.size 217 #[.int .i64 3, v6]) w11 := C_11
  refine hK.out _ _ sM (fun _ => ?_)
  clear hK K
  try simp only [Act.put, List.setIfInBounds_toArray, List.set_cons_zero, List.set_cons_succ]
  clear sN
  have sN := sM
  clear sM
  refine nextS 3 (by kernel_rfl) (by rfl) (fun o ho K hK => ?_)
  simp only [List.getElem?_toArray, List.getElem?_cons_succ, List.getElem?_cons_zero, Option.some.injEq] at ho; subst ho
  go_simp
  (go_at_call 164; (with_reducible refine (re_100 _ _ _ _ _ _ f11).mono ?_); rintro e w12 ⟨v12, g12, h12, rfl, f12, o12, b12⟩)
  have f1_12 := f1_11.on b12
  have B_12 := B_11.on b12
  have f6_12 := f6_11.on b12
  have C_12 := C_11.on b12
  have f9_12 := f9_11.on b12
  have f10_12 := f10_11.on b12
  have f11_12 := f11.on b12
  have z12 := (z11).on b12
  have sM : (fun W => Blk W w6.heap.size 217 #[.int .i64 3, v6]) w12 := C_12
  refine hK.out _ _ sM (fun _ => ?_)
  clear hK K
  try simp only [Act.put, List.setIfInBounds_toArray, List.set_cons_zero, List.set_cons_succ]
  clear sN
  have sN := sM
  clear sM
  refine nextS 4 (by kernel_rfl) (by rfl) (fun o ho K hK => ?_)
  simp only [List.getElem?_toArray, List.getElem?_cons_succ, List.getElem?_cons_zero, Option.some.injEq] at ho; subst ho
  go_simp
  (go_at_call 163; (with_reducible refine (but_any _ _ _ _ _ _ _ _ _ _ _ _ _ _ _ _ _ f10_12 f12).mono ?_); rintro e w13 ⟨v13, g13, h13, rfl, f13, o13, b13⟩)
  have f1_13 := f1_12.on b13
  have B_13 := B_12.on b13
  have f6_13 := f6_12.on b13
  have C_13 := C_12.on b13
  have f9_13 := f9_12.on b13
  have f10_13 := f10_12.on b13
  have f11_13 := f11_12.on b13
  have f12_13 := f12.on b13
  have z13 := (z12).on b13
  have sM : (fun W => Blk W w6.heap.size 217 #[.int .i64 3, v6]) w13 := C_13
  refine hK.out _ _ sM (fun _ => ?_)
  clear hK K
  try simp only [Act.put, List.setIfInBounds_toArray, List.set_cons_zero, List.set_cons_succ]
  clear sN
  have sN := sM
  clear sM
  refine takeS 5 (some 39) (.agg #[.int .i64 1, v13]) (by kernel_rfl) (by kernel_rfl) (by kernel_rfl) (by kernel_rfl) (fun _ _ _ h => h) (by rfl) ?hya25 sN ?resta25
  case hya25 => (intro o ho W hW; simp only [List.getElem?_toArray, List.getElem?_cons_succ, List.getElem?_cons_zero, Option.some.injEq] at ho; subst ho; (try dsimp only at hW); skip; go_simp; try rfl)
  try simp only [Act.put, List.setIfInBounds_toArray, List.set_cons_zero, List.set_cons_succ]
  refine nextS 7 (by kernel_rfl) (by rfl) (fun o ho K hK => ?_)
  simp only [List.getElem?_toArray, List.getElem?_cons_succ, List.getElem?_cons_zero, Option.some.injEq] at ho; subst ho
  go_simp
  (go_at_call 165; (with_reducible refine ((all_any _)).mono ?_); rintro e _ ⟨v14, rfl, e14, o14, rfl⟩)
  have sM := sN
  refine hK.out _ _ sM (fun _ => ?_)
  clear hK K
  try simp only [Act.put, List.setIfInBounds_toArray, List.set_cons_zero, List.set_cons_succ]
  clear sN
  have sN := sM
  clear sM
  refine takeS 8 (some 42) (.agg #[.int .i64 4, v14]) (by kernel_rfl) (by kernel_rfl) (by kernel_rfl) (by kernel_rfl) (fun _ _ _ h => h) (by rfl) ?hya38 sN ?resta38
  case hya38 => (intro o ho W hW; simp only [List.getElem?_toArray, List.getElem?_cons_succ, List.getElem?_cons_zero, Option.some.injEq] at ho; subst ho; (try dsimp only at hW); skip; go_simp; try rfl)
  try simp only [Act.put, List.setIfInBounds_toArray, List.set_cons_zero, List.set_cons_succ]
  have hl : ∀ q ∈ ([(1, v13, .bu 10 1 1 100 11 11), (3, v6, .bu 10 2 4 100 12 14), (4, v14, .al)] : List (Nat × Value × D.Ts)), FT w13 q.2.1 q.2.2 := by
    intro q hq
    simp only [List.mem_cons, List.not_mem_nil, or_false] at hq
    rcases hq with rfl | rfl | rfl
    · exact ⟨by decide, by decide, _, _, _, _, _, _, _, _, _, _, f13⟩
    · exact ⟨by decide, by decide, _, _, _, _, _, _, _, _, _, _, f6_13⟩
    · exact e14.out
  have HR : RR (w13.alloc (.cells #[.int .i64 1, v13, .int .i64 3, v6, .int .i64 4, v14] 217)) (some ⟨w13.heap.size, 0, none⟩) 3 (D.rls 3) := RR.new w13 _ _ rfl [(1, v13, .bu 10 1 1 100 11 11), (3, v6, .bu 10 2 4 100 12 14), (4, v14, .al)] hl _ rfl 3 rfl
  have ZR := (z13).alloc (.cells #[.int .i64 1, v13, .int .i64 3, v6, .int .i64 4, v14] 217)
  refine nextS 9 (by kernel_rfl) (by rfl) (fun o ho K hK => ?_)
  simp only [List.getElem?_toArray, List.getElem?_cons_succ, List.getElem?_cons_zero, Option.some.injEq] at ho; subst ho
  go_simp
  have sM : (fun W => Blk W w6.heap.size 217 #[.int .i64 3, v6]) (w13.alloc (.cells #[.int .i64 1, v13, .int .i64 3, v6, .int .i64 4, v14] 217)) := C_13.alloc _
  refine hK.out _ _ sM (fun _ => ?_)
  clear hK K
  try simp only [Act.put, List.setIfInBounds_toArray, List.set_cons_zero, List.set_cons_succ]
  refine takeS 10 (some 2) (.slice (some ⟨w13.heap.size, 0, none⟩) 3 3) (by kernel_rfl) (by kernel_rfl) (by kernel_rfl) (by kernel_rfl) (fun _ _ _ h => h) (by rfl) ?hya410 sM ?resta410
  case hya410 => (intro o ho W hW; simp only [List.getElem?_toArray, List.getElem?_cons_succ, List.getElem?_cons_zero, Option.some.injEq] at ho; subst ho; (try dsimp only at hW); skip; go_simp; try rfl)
  try simp only [Act.put, List.setIfInBounds_toArray, List.set_cons_zero, List.set_cons_succ]
  refine wpAnyH_done (by kernel_rfl) ?_ _
  refine NoPanic.normal ?_
  go_wp2
  go_ret
  exact ⟨_, _, _, rfl, HR, Nat.le_refl _, ZR.below⟩
set_option maxHeartbeats 4000000 in
theorem rules_l9 (s : ByteArray) (w : World) (h : Tst s fun j => decide (j = 9 ∨ 16 ≤ j)) : Calls Tryz.prog 122 #[.string s] w fun e w' => ∃ A n c, e = .returned (.slice A n c) ∧ RR w' A n (D.rls 3) ∧ n ≤ c ∧ Below w.heap.size w w' := by
  obtain ⟨t0, t1, t2, t3, t4, t5, t6, t7, t8, t9, t10, t11, t12, t13, t14, t15⟩ := h
  replace t0 := t0.trans (by decide : _ = false)
  replace t1 := t1.trans (by decide : _ = false)
  replace t2 := t2.trans (by decide : _ = false)
  replace t3 := t3.trans (by decide : _ = false)
  replace t4 := t4.trans (by decide : _ = false)
  replace t5 := t5.trans (by decide : _ = false)
  replace t6 := t6.trans (by decide : _ = false)
  replace t7 := t7.trans (by decide : _ = false)
  replace t8 := t8.trans (by decide : _ = false)
  replace t9 := t9.trans (by decide : _ = true)
  replace t10 := t10.trans (by decide : _ = false)
  replace t11 := t11.trans (by decide : _ = false)
  replace t12 := t12.trans (by decide : _ = false)
  replace t13 := t13.trans (by decide : _ = false)
  replace t14 := t14.trans (by decide : _ = false)
  replace t15 := t15.trans (by decide : _ = false)
  go_enter Tryz.func122, Tryz.ntmps122
  go_wp2_with (first
    | (go_at_call 162; (with_reducible refine (am_11 w).mono ?_); rintro e w1 ⟨v1, g1, h1, rfl, f1, o1, b1⟩; have z1 := (Fw.self w).on b1)
    | (go_at_call 162; (with_reducible refine (am_24 (w1.alloc _)).mono ?_); rintro e w2 ⟨v2, g2, h2, rfl, f2, o2, b2⟩; have f1_2 := (f1.on (below_alloc_ w1 (.cells #[.int .i64 1, v1] 217))).on b2; have B_2 := (Blk.new w1 217 #[.int .i64 1, v1]).on b2; have z2 := (((z1).alloc (.cells #[.int .i64 1, v1] 217))).on b2)
    | (go_at_call 164; (with_reducible refine (re_10 _ _ _ _ _ _ f2).mono ?_); rintro e w3 ⟨v3, g3, h3, rfl, f3, o3, b3⟩; have f1_3 := f1_2.on b3; have B_3 := B_2.on b3; have f2_3 := f2.on b3; have z3 := (z2).on b3)
    | (go_at_call 162; (with_reducible refine (am_1214 _).mono ?_); rintro e w4 ⟨v4, g4, h4, rfl, f4, o4, b4⟩; have f1_4 := f1_3.on b4; have B_4 := B_3.on b4; have f2_4 := f2_3.on b4; have f3_4 := f3.on b4; have z4 := (z3).on b4)
    | (go_at_call 164; (with_reducible refine (re_100 _ _ _ _ _ _ f4).mono ?_); rintro e w5 ⟨v5, g5, h5, rfl, f5, o5, b5⟩; have f1_5 := f1_4.on b5; have B_5 := B_4.on b5; have f2_5 := f2_4.on b5; have f3_5 := f3_4.on b5; have f4_5 := f4.on b5; have z5 := (z4).on b5)
    | (go_at_call 163; (with_reducible refine (but_any _ _ _ _ _ _ _ _ _ _ _ _ _ _ _ _ _ f3_5 f5).mono ?_); rintro e w6 ⟨v6, g6, h6, rfl, f6, o6, b6⟩; have f1_6 := f1_5.on b6; have B_6 := B_5.on b6; have f2_6 := f2_5.on b6; have f3_6 := f3_5.on b6; have f4_6 := f4_5.on b6; have f5_6 := f5.on b6; have z6 := (z5).on b6)
    | (go_at_call 162; (with_reducible refine (am_1119 _).mono ?_); rintro e w7 ⟨v7, g7, h7, rfl, f7, o7, b7⟩; have f1_7 := (f1_6.on (below_alloc_ w6 (.cells #[.int .i64 3, v6] 217))).on b7; have B_7 := (B_6.on (below_alloc_ w6 (.cells #[.int .i64 3, v6] 217))).on b7; have f2_7 := (f2_6.on (below_alloc_ w6 (.cells #[.int .i64 3, v6] 217))).on b7; have f3_7 := (f3_6.on (below_alloc_ w6 (.cells #[.int .i64 3, v6] 217))).on b7; have f4_7 := (f4_6.on (below_alloc_ w6 (.cells #[.int .i64 3, v6] 217))).on b7; have f5_7 := (f5_6.on (below_alloc_ w6 (.cells #[.int .i64 3, v6] 217))).on b7; have f6_7 := (f6.on (below_alloc_ w6 (.cells #[.int .i64 3, v6] 217))).on b7; have C_7 := (Blk.new w6 217 #[.int .i64 3, v6]).on b7; have z7 := (((z6).alloc (.cells #[.int .i64 3, v6] 217))).on b7)
    | (go_at_call 164; (with_reducible refine (re_100 _ _ _ _ _ _ f7).mono ?_); rintro e w8 ⟨v8, g8, h8, rfl, f8, o8, b8⟩; have f1_8 := f1_7.on b8; have B_8 := B_7.on b8; have f2_8 := f2_7.on b8; have f3_8 := f3_7.on b8; have f4_8 := f4_7.on b8; have f5_8 := f5_7.on b8; have f6_8 := f6_7.on b8; have C_8 := C_7.on b8; have f7_8 := f7.on b8; have z8 := (z7).on b8)
    | fail)
  clear t0 t1 t2 t3 t4 t5 t6 t7 t8 t9 t10 t11 t12 t13 t14 t15
  have s8 : (fun W => Blk W w6.heap.size 217 #[.int .i64 3, v6]) w8.drew := ⟨C_8.out⟩
  refine wp_region_noPanic ?_
  refine wp_region_held_drew (S := (fun W => Blk W w6.heap.size 217 #[.int .i64 3, v6])) (by kernel_rfl) s8 (fun _ => ?_)
  obtain ⟨wd, hwd⟩ : ∃ wd, w8.drew = wd := ⟨_, rfl⟩
  rw [hwd] at s8
  rw [hwd]
  have bd : Below w8.heap.size w8 wd := by rw [← hwd]; exact (Below.refl _ _).drew
  clear hwd
  have f1_d := f1_8.on bd
  have f6_d := f6_8.on bd
  have B_d := B_8.on bd
  have C_d := C_8.on bd
  have zd := (z8).on bd
  have sN := s8
  clear s8
  refine takeS 6 (some 40) (.agg #[.int .i64 3, v6]) (by kernel_rfl) (by kernel_rfl) (by kernel_rfl) (by kernel_rfl) (fun _ _ _ h => h) (by rfl) ?hya16 sN ?resta16
  case hya16 => (intro o ho W hW; simp only [List.getElem?_toArray, List.getElem?_cons_succ, List.getElem?_cons_zero, Option.some.injEq] at ho; subst ho; (try dsimp only at hW); have q0 := (hW).c 0; have q1 := (hW).c 1; simp only [List.getElem?_toArray, List.getElem?_cons_succ, List.getElem?_cons_zero] at q0 q1; go_simp; try rfl)
  try simp only [Act.put, List.setIfInBounds_toArray, List.set_cons_zero, List.set_cons_succ]
  refine nextS 0 (by kernel_rfl) (by rfl) (fun o ho K hK => ?_)
  simp only [List.getElem?_toArray, List.getElem?_cons_succ, List.getElem?_cons_zero, Option.some.injEq] at ho; subst ho
  go_simp
  (go_at_call 162; (with_reducible refine (am_11 _).mono ?_); rintro e w9 ⟨v9, g9, h9, rfl, f9, o9, b9⟩)
  have f1_9 := f1_d.on b9
  have B_9 := B_d.on b9
  have f6_9 := f6_d.on b9
  have C_9 := C_d.on b9
  have z9 := (zd).on b9
  have sM : (fun W => Blk W w6.heap.size 217 #[.int .i64 3, v6]) w9 := C_9
  refine hK.out _ _ sM (fun _ => ?_)
  clear hK K
  try simp only [Act.put, List.setIfInBounds_toArray, List.set_cons_zero, List.set_cons_succ]
  clear sN
  have sN := sM
  clear sM
  refine nextS 1 (by kernel_rfl) (by rfl) (fun o ho K hK => ?_)
  simp only [List.getElem?_toArray, List.getElem?_cons_succ, List.getElem?_cons_zero, Option.some.injEq] at ho; subst ho
  go_simp
  (go_at_call 164; (with_reducible refine (re_10 _ _ _ _ _ _ f9).mono ?_); rintro e w10 ⟨v10, g10, h10, rfl, f10, o10, b10⟩)
  have f1_10 := f1_9.on b10
  have B_10 := B_9.on b10
  have f6_10 := f6_9.on b10
  have C_10 := C_9.on b10
  have f9_10 := f9.on b10
  have z10 := (z9).on b10
  have sM : (fun W => Blk W w6.heap.size 217 #[.int .i64 3, v6]) w10 := C_10
  refine hK.out _ _ sM (fun _ => ?_)
  clear hK K
  try simp only [Act.put, List.setIfInBounds_toArray, List.set_cons_zero, List.set_cons_succ]
  clear sN
  have sN := sM
  clear sM
  refine nextS 2 (by kernel_rfl) (by rfl) (fun o ho K hK => ?_)
  simp only [List.getElem?_toArray, List.getElem?_cons_succ, List.getElem?_cons_zero, Option.some.injEq] at ho; subst ho
  go_simp
  (go_at_call 162; (with_reducible refine (am_1111 _).mono ?_); rintro e w11 ⟨v11, g11, h11, rfl, f11, o11, b11⟩)
  have f1_11 := f1_10.on b11
  have B_11 := B_10.on b11
  have f6_11 := f6_10.on b11
  have C_11 := C_10.on b11
  have f9_11 := f9_10.on b11
  have f10_11 := f10.on b11
  have z11 := (z10).on b11
  have sM : (fun W => Blk W w6.heap.size 217 #[.int .i64 3, v6]) w11 := C_11
  refine hK.out _ _ sM (fun _ => ?_)
  clear hK K
  try simp only [Act.put, List.setIfInBounds_toArray, List.set_cons_zero, List.set_cons_succ]
  clear sN
  have sN := sM
  clear sM
  refine nextS 3 (by kernel_rfl) (by rfl) (fun o ho K hK => ?_)
  simp only [List.getElem?_toArray, List.getElem?_cons_succ, List.getElem?_cons_zero, Option.some.injEq] at ho; subst ho
  go_simp
  (go_at_call 164; (with_reducible refine (re_100 _ _ _ _ _ _ f11).mono ?_); rintro e w12 ⟨v12, g12, h12, rfl, f12, o12, b12⟩)
  have f1_12 := f1_11.on b12
  have B_12 := B_11.on b12
  have f6_12 := f6_11.on b12
  have C_12 := C_11.on b12
  have f9_12 := f9_11.on b12
  have f10_12 := f10_11.on b12
  have f11_12 := f11.on b12
  have z12 := (z11).on b12
  have sM : (fun W => Blk W w6.heap.size 217 #[.int .i64 3, v6]) w12 := C_12
  refine hK.out _ _ sM (fun _ => ?_)
  clear hK K
  try simp only [Act.put, List.setIfInBounds_toArray, List.set_cons_zero, List.set_cons_succ]
  clear sN
  have sN := sM
  clear sM
  refine nextS 4 (by kernel_rfl) (by rfl) (fun o ho K hK => ?_)
  simp only [List.getElem?_toArray, List.getElem?_cons_succ, List.getElem?_cons_zero, Option.some.injEq] at ho; subst ho
  go_simp
  (go_at_call 163; (with_reducible refine (but_any _ _ _ _ _ _ _ _ _ _ _ _ _ _ _ _ _ f10_12 f12).mono ?_); rintro e w13 ⟨v13, g13, h13, rfl, f13, o13, b13⟩)
  have f1_13 := f1_12.on b13
  have B_13 := B_12.on b13
  have f6_13 := f6_12.on b13
  have C_13 := C_12.on b13
  have f9_13 := f9_12.on b13
  have f10_13 := f10_12.on b13
  have f11_13 := f11_12.on b13
  have f12_13 := f12.on b13
  have z13 := (z12).on b13
  have sM : (fun W => Blk W w6.heap.size 217 #[.int .i64 3, v6]) w13 := C_13
  refine hK.out _ _ sM (fun _ => ?_)
  clear hK K
  try simp only [Act.put, List.setIfInBounds_toArray, List.set_cons_zero, List.set_cons_succ]
  clear sN
  have sN := sM
  clear sM
  refine takeS 5 (some 39) (.agg #[.int .i64 1, v13]) (by kernel_rfl) (by kernel_rfl) (by kernel_rfl) (by kernel_rfl) (fun _ _ _ h => h) (by rfl) ?hya25 sN ?resta25
  case hya25 => (intro o ho W hW; simp only [List.getElem?_toArray, List.getElem?_cons_succ, List.getElem?_cons_zero, Option.some.injEq] at ho; subst ho; (try dsimp only at hW); skip; go_simp; try rfl)
  try simp only [Act.put, List.setIfInBounds_toArray, List.set_cons_zero, List.set_cons_succ]
  refine nextS 7 (by kernel_rfl) (by rfl) (fun o ho K hK => ?_)
  simp only [List.getElem?_toArray, List.getElem?_cons_succ, List.getElem?_cons_zero, Option.some.injEq] at ho; subst ho
  go_simp
  (go_at_call 165; (with_reducible refine ((all_any _)).mono ?_); rintro e _ ⟨v14, rfl, e14, o14, rfl⟩)
  have sM := sN
  refine hK.out _ _ sM (fun _ => ?_)
  clear hK K
  try simp only [Act.put, List.setIfInBounds_toArray, List.set_cons_zero, List.set_cons_succ]
  clear sN
  have sN := sM
  clear sM
  refine takeS 8 (some 42) (.agg #[.int .i64 4, v14]) (by kernel_rfl) (by kernel_rfl) (by kernel_rfl) (by kernel_rfl) (fun _ _ _ h => h) (by rfl) ?hya38 sN ?resta38
  case hya38 => (intro o ho W hW; simp only [List.getElem?_toArray, List.getElem?_cons_succ, List.getElem?_cons_zero, Option.some.injEq] at ho; subst ho; (try dsimp only at hW); skip; go_simp; try rfl)
  try simp only [Act.put, List.setIfInBounds_toArray, List.set_cons_zero, List.set_cons_succ]
  have hl : ∀ q ∈ ([(1, v13, .bu 10 1 1 100 11 11), (3, v6, .bu 10 2 4 100 12 14), (4, v14, .al)] : List (Nat × Value × D.Ts)), FT w13 q.2.1 q.2.2 := by
    intro q hq
    simp only [List.mem_cons, List.not_mem_nil, or_false] at hq
    rcases hq with rfl | rfl | rfl
    · exact ⟨by decide, by decide, _, _, _, _, _, _, _, _, _, _, f13⟩
    · exact ⟨by decide, by decide, _, _, _, _, _, _, _, _, _, _, f6_13⟩
    · exact e14.out
  have HR : RR (w13.alloc (.cells #[.int .i64 1, v13, .int .i64 3, v6, .int .i64 4, v14] 217)) (some ⟨w13.heap.size, 0, none⟩) 3 (D.rls 3) := RR.new w13 _ _ rfl [(1, v13, .bu 10 1 1 100 11 11), (3, v6, .bu 10 2 4 100 12 14), (4, v14, .al)] hl _ rfl 3 rfl
  have ZR := (z13).alloc (.cells #[.int .i64 1, v13, .int .i64 3, v6, .int .i64 4, v14] 217)
  refine nextS 9 (by kernel_rfl) (by rfl) (fun o ho K hK => ?_)
  simp only [List.getElem?_toArray, List.getElem?_cons_succ, List.getElem?_cons_zero, Option.some.injEq] at ho; subst ho
  go_simp
  have sM : (fun W => Blk W w6.heap.size 217 #[.int .i64 3, v6]) (w13.alloc (.cells #[.int .i64 1, v13, .int .i64 3, v6, .int .i64 4, v14] 217)) := C_13.alloc _
  refine hK.out _ _ sM (fun _ => ?_)
  clear hK K
  try simp only [Act.put, List.setIfInBounds_toArray, List.set_cons_zero, List.set_cons_succ]
  refine takeS 10 (some 2) (.slice (some ⟨w13.heap.size, 0, none⟩) 3 3) (by kernel_rfl) (by kernel_rfl) (by kernel_rfl) (by kernel_rfl) (fun _ _ _ h => h) (by rfl) ?hya410 sM ?resta410
  case hya410 => (intro o ho W hW; simp only [List.getElem?_toArray, List.getElem?_cons_succ, List.getElem?_cons_zero, Option.some.injEq] at ho; subst ho; (try dsimp only at hW); skip; go_simp; try rfl)
  try simp only [Act.put, List.setIfInBounds_toArray, List.set_cons_zero, List.set_cons_succ]
  refine wpAnyH_done (by kernel_rfl) ?_ _
  refine NoPanic.normal ?_
  go_wp2
  go_ret
  exact ⟨_, _, _, rfl, HR, Nat.le_refl _, ZR.below⟩
set_option maxHeartbeats 4000000 in
theorem rules_l10 (s : ByteArray) (w : World) (h : Tst s fun j => decide (j = 10 ∨ 16 ≤ j)) : Calls Tryz.prog 122 #[.string s] w fun e w' => ∃ A n c, e = .returned (.slice A n c) ∧ RR w' A n (D.rls 3) ∧ n ≤ c ∧ Below w.heap.size w w' := by
  obtain ⟨t0, t1, t2, t3, t4, t5, t6, t7, t8, t9, t10, t11, t12, t13, t14, t15⟩ := h
  replace t0 := t0.trans (by decide : _ = false)
  replace t1 := t1.trans (by decide : _ = false)
  replace t2 := t2.trans (by decide : _ = false)
  replace t3 := t3.trans (by decide : _ = false)
  replace t4 := t4.trans (by decide : _ = false)
  replace t5 := t5.trans (by decide : _ = false)
  replace t6 := t6.trans (by decide : _ = false)
  replace t7 := t7.trans (by decide : _ = false)
  replace t8 := t8.trans (by decide : _ = false)
  replace t9 := t9.trans (by decide : _ = false)
  replace t10 := t10.trans (by decide : _ = true)
  replace t11 := t11.trans (by decide : _ = false)
  replace t12 := t12.trans (by decide : _ = false)
  replace t13 := t13.trans (by decide : _ = false)
  replace t14 := t14.trans (by decide : _ = false)
  replace t15 := t15.trans (by decide : _ = false)
  go_enter Tryz.func122, Tryz.ntmps122
  go_wp2_with (first
    | (go_at_call 162; (with_reducible refine (am_11 w).mono ?_); rintro e w1 ⟨v1, g1, h1, rfl, f1, o1, b1⟩; have z1 := (Fw.self w).on b1)
    | (go_at_call 162; (with_reducible refine (am_24 (w1.alloc _)).mono ?_); rintro e w2 ⟨v2, g2, h2, rfl, f2, o2, b2⟩; have f1_2 := (f1.on (below_alloc_ w1 (.cells #[.int .i64 1, v1] 217))).on b2; have B_2 := (Blk.new w1 217 #[.int .i64 1, v1]).on b2; have z2 := (((z1).alloc (.cells #[.int .i64 1, v1] 217))).on b2)
    | (go_at_call 164; (with_reducible refine (re_10 _ _ _ _ _ _ f2).mono ?_); rintro e w3 ⟨v3, g3, h3, rfl, f3, o3, b3⟩; have f1_3 := f1_2.on b3; have B_3 := B_2.on b3; have f2_3 := f2.on b3; have z3 := (z2).on b3)
    | (go_at_call 162; (with_reducible refine (am_1214 _).mono ?_); rintro e w4 ⟨v4, g4, h4, rfl, f4, o4, b4⟩; have f1_4 := f1_3.on b4; have B_4 := B_3.on b4; have f2_4 := f2_3.on b4; have f3_4 := f3.on b4; have z4 := (z3).on b4)
    | (go_at_call 164; (with_reducible refine (re_100 _ _ _ _ _ _ f4).mono ?_); rintro e w5 ⟨v5, g5, h5, rfl, f5, o5, b5⟩; have f1_5 := f1_4.on b5; have B_5 := B_4.on b5; have f2_5 := f2_4.on b5; have f3_5 := f3_4.on b5; have f4_5 := f4.on b5; have z5 := (z4).on b5)
    | (go_at_call 163; (with_reducible refine (but_any _ _ _ _ _ _ _ _ _ _ _ _ _ _ _ _ _ f3_5 f5).mono ?_); rintro e w6 ⟨v6, g6, h6, rfl, f6, o6, b6⟩; have f1_6 := f1_5.on b6; have B_6 := B_5.on b6; have f2_6 := f2_5.on b6; have f3_6 := f3_5.on b6; have f4_6 := f4_5.on b6; have f5_6 := f5.on b6; have z6 := (z5).on b6)
    | (go_at_call 162; (with_reducible refine (am_1119 _).mono ?_); rintro e w7 ⟨v7, g7, h7, rfl, f7, o7, b7⟩; have f1_7 := (f1_6.on (below_alloc_ w6 (.cells #[.int .i64 3, v6] 217))).on b7; have B_7 := (B_6.on (below_alloc_ w6 (.cells #[.int .i64 3, v6] 217))).on b7; have f2_7 := (f2_6.on (below_alloc_ w6 (.cells #[.int .i64 3, v6] 217))).on b7; have f3_7 := (f3_6.on (below_alloc_ w6 (.cells #[.int .i64 3, v6] 217))).on b7; have f4_7 := (f4_6.on (below_alloc_ w6 (.cells #[.int .i64 3, v6] 217))).on b7; have f5_7 := (f5_6.on (below_alloc_ w6 (.cells #[.int .i64 3, v6] 217))).on b7; have f6_7 := (f6.on (below_alloc_ w6 (.cells #[.int .i64 3, v6] 217))).on b7; have C_7 := (Blk.new w6 217 #[.int .i64 3, v6]).on b7; have z7 := (((z6).alloc (.cells #[.int .i64 3, v6] 217))).on b7)
    | (go_at_call 164; (with_reducible refine (re_100 _ _ _ _ _ _ f7).mono ?_); rintro e w8 ⟨v8, g8, h8, rfl, f8, o8, b8⟩; have f1_8 := f1_7.on b8; have B_8 := B_7.on b8; have f2_8 := f2_7.on b8; have f3_8 := f3_7.on b8; have f4_8 := f4_7.on b8; have f5_8 := f5_7.on b8; have f6_8 := f6_7.on b8; have C_8 := C_7.on b8; have f7_8 := f7.on b8; have z8 := (z7).on b8)
    | fail)
  clear t0 t1 t2 t3 t4 t5 t6 t7 t8 t9 t10 t11 t12 t13 t14 t15
  have s8 : (fun W => Blk W w6.heap.size 217 #[.int .i64 3, v6]) w8.drew := ⟨C_8.out⟩
  refine wp_region_noPanic ?_
  refine wp_region_held_drew (S := (fun W => Blk W w6.heap.size 217 #[.int .i64 3, v6])) (by kernel_rfl) s8 (fun _ => ?_)
  obtain ⟨wd, hwd⟩ : ∃ wd, w8.drew = wd := ⟨_, rfl⟩
  rw [hwd] at s8
  rw [hwd]
  have bd : Below w8.heap.size w8 wd := by rw [← hwd]; exact (Below.refl _ _).drew
  clear hwd
  have f1_d := f1_8.on bd
  have f6_d := f6_8.on bd
  have B_d := B_8.on bd
  have C_d := C_8.on bd
  have zd := (z8).on bd
  have sN := s8
  clear s8
  refine takeS 6 (some 40) (.agg #[.int .i64 3, v6]) (by kernel_rfl) (by kernel_rfl) (by kernel_rfl) (by kernel_rfl) (fun _ _ _ h => h) (by rfl) ?hya16 sN ?resta16
  case hya16 => (intro o ho W hW; simp only [List.getElem?_toArray, List.getElem?_cons_succ, List.getElem?_cons_zero, Option.some.injEq] at ho; subst ho; (try dsimp only at hW); have q0 := (hW).c 0; have q1 := (hW).c 1; simp only [List.getElem?_toArray, List.getElem?_cons_succ, List.getElem?_cons_zero] at q0 q1; go_simp; try rfl)
  try simp only [Act.put, List.setIfInBounds_toArray, List.set_cons_zero, List.set_cons_succ]
  refine nextS 0 (by kernel_rfl) (by rfl) (fun o ho K hK => ?_)
  simp only [List.getElem?_toArray, List.getElem?_cons_succ, List.getElem?_cons_zero, Option.some.injEq] at ho; subst ho
  go_simp
  (go_at_call 162; (with_reducible refine (am_11 _).mono ?_); rintro e w9 ⟨v9, g9, h9, rfl, f9, o9, b9⟩)
  have f1_9 := f1_d.on b9
  have B_9 := B_d.on b9
  have f6_9 := f6_d.on b9
  have C_9 := C_d.on b9
  have z9 := (zd).on b9
  have sM : (fun W => Blk W w6.heap.size 217 #[.int .i64 3, v6]) w9 := C_9
  refine hK.out _ _ sM (fun _ => ?_)
  clear hK K
  try simp only [Act.put, List.setIfInBounds_toArray, List.set_cons_zero, List.set_cons_succ]
  clear sN
  have sN := sM
  clear sM
  refine nextS 1 (by kernel_rfl) (by rfl) (fun o ho K hK => ?_)
  simp only [List.getElem?_toArray, List.getElem?_cons_succ, List.getElem?_cons_zero, Option.some.injEq] at ho; subst ho
  go_simp
  (go_at_call 164; (with_reducible refine (re_10 _ _ _ _ _ _ f9).mono ?_); rintro e w10 ⟨v10, g10, h10, rfl, f10, o10, b10⟩)
  have f1_10 := f1_9.on b10
  have B_10 := B_9.on b10
  have f6_10 := f6_9.on b10
  have C_10 := C_9.on b10
  have f9_10 := f9.on b10
  have z10 := (z9).on b10
  have sM : (fun W => Blk W w6.heap.size 217 #[.int .i64 3, v6]) w10 := C_10
  refine hK.out _ _ sM (fun _ => ?_)
  clear hK K
  try simp only [Act.put, List.setIfInBounds_toArray, List.set_cons_zero, List.set_cons_succ]
  clear sN
  have sN := sM
  clear sM
  refine nextS 2 (by kernel_rfl) (by rfl) (fun o ho K hK => ?_)
  simp only [List.getElem?_toArray, List.getElem?_cons_succ, List.getElem?_cons_zero, Option.some.injEq] at ho; subst ho
  go_simp
  (go_at_call 162; (with_reducible refine (am_1111 _).mono ?_); rintro e w11 ⟨v11, g11, h11, rfl, f11, o11, b11⟩)
  have f1_11 := f1_10.on b11
  have B_11 := B_10.on b11
  have f6_11 := f6_10.on b11
  have C_11 := C_10.on b11
  have f9_11 := f9_10.on b11
  have f10_11 := f10.on b11
  have z11 := (z10).on b11
  have sM : (fun W => Blk W w6.heap.size 217 #[.int .i64 3, v6]) w11 := C_11
  refine hK.out _ _ sM (fun _ => ?_)
  clear hK K
  try simp only [Act.put, List.setIfInBounds_toArray, List.set_cons_zero, List.set_cons_succ]
  clear sN
  have sN := sM
  clear sM
  refine nextS 3 (by kernel_rfl) (by rfl) (fun o ho K hK => ?_)
  simp only [List.getElem?_toArray, List.getElem?_cons_succ, List.getElem?_cons_zero, Option.some.injEq] at ho; subst ho
  go_simp
  (go_at_call 164; (with_reducible refine (re_100 _ _ _ _ _ _ f11).mono ?_); rintro e w12 ⟨v12, g12, h12, rfl, f12, o12, b12⟩)
  have f1_12 := f1_11.on b12
  have B_12 := B_11.on b12
  have f6_12 := f6_11.on b12
  have C_12 := C_11.on b12
  have f9_12 := f9_11.on b12
  have f10_12 := f10_11.on b12
  have f11_12 := f11.on b12
  have z12 := (z11).on b12
  have sM : (fun W => Blk W w6.heap.size 217 #[.int .i64 3, v6]) w12 := C_12
  refine hK.out _ _ sM (fun _ => ?_)
  clear hK K
  try simp only [Act.put, List.setIfInBounds_toArray, List.set_cons_zero, List.set_cons_succ]
  clear sN
  have sN := sM
  clear sM
  refine nextS 4 (by kernel_rfl) (by rfl) (fun o ho K hK => ?_)
  simp only [List.getElem?_toArray, List.getElem?_cons_succ, List.getElem?_cons_zero, Option.some.injEq] at ho; subst ho
  go_simp
  (go_at_call 163; (with_reducible refine (but_any _ _ _ _ _ _ _ _ _ _ _ _ _ _ _ _ _ f10_12 f12).mono ?_); rintro e w13 ⟨v13, g13, h13, rfl, f13, o13, b13⟩)
  have f1_13 := f1_12.on b13
  have B_13 := B_12.on b13
  have f6_13 := f6_12.on b13
  have C_13 := C_12.on b13
  have f9_13 := f9_12.on b13
  have f10_13 := f10_12.on b13
  have f11_13 := f11_12.on b13
  have f12_13 := f12.on b13
  have z13 := (z12).on b13
  have sM : (fun W => Blk W w6.heap.size 217 #[.int .i64 3, v6]) w13 := C_13
  refine hK.out _ _ sM (fun _ => ?_)
  clear hK K
  try simp only [Act.put, List.setIfInBounds_toArray, List.set_cons_zero, List.set_cons_succ]
  clear sN
  have sN := sM
  clear sM
  refine takeS 5 (some 39) (.agg #[.int .i64 1, v13]) (by kernel_rfl) (by kernel_rfl) (by kernel_rfl) (by kernel_rfl) (fun _ _ _ h => h) (by rfl) ?hya25 sN ?resta25
  case hya25 => (intro o ho W hW; simp only [List.getElem?_toArray, List.getElem?_cons_succ, List.getElem?_cons_zero, Option.some.injEq] at ho; subst ho; (try dsimp only at hW); skip; go_simp; try rfl)
  try simp only [Act.put, List.setIfInBounds_toArray, List.set_cons_zero, List.set_cons_succ]
  refine nextS 7 (by kernel_rfl) (by rfl) (fun o ho K hK => ?_)
  simp only [List.getElem?_toArray, List.getElem?_cons_succ, List.getElem?_cons_zero, Option.some.injEq] at ho; subst ho
  go_simp
  (go_at_call 165; (with_reducible refine ((all_any _)).mono ?_); rintro e _ ⟨v14, rfl, e14, o14, rfl⟩)
  have sM := sN
  refine hK.out _ _ sM (fun _ => ?_)
  clear hK K
  try simp only [Act.put, List.setIfInBounds_toArray, List.set_cons_zero, List.set_cons_succ]
  clear sN
  have sN := sM
  clear sM
  refine takeS 8 (some 42) (.agg #[.int .i64 4, v14]) (by kernel_rfl) (by kernel_rfl) (by kernel_rfl) (by kernel_rfl) (fun _ _ _ h => h) (by rfl) ?hya38 sN ?resta38
  case hya38 => (intro o ho W hW; simp only [List.getElem?_toArray, List.getElem?_cons_succ, List.getElem?_cons_zero, Option.some.injEq] at ho; subst ho; (try dsimp only at hW); skip; go_simp; try rfl)
  try simp only [Act.put, List.setIfInBounds_toArray, List.set_cons_zero, List.set_cons_succ]
  have hl : ∀ q ∈ ([(1, v13, .bu 10 1 1 100 11 11), (3, v6, .bu 10 2 4 100 12 14), (4, v14, .al)] : List (Nat × Value × D.Ts)), FT w13 q.2.1 q.2.2 := by
    intro q hq
    simp only [List.mem_cons, List.not_mem_nil, or_false] at hq
    rcases hq with rfl | rfl | rfl
    · exact ⟨by decide, by decide, _, _, _, _, _, _, _, _, _, _, f13⟩
    · exact ⟨by decide, by decide, _, _, _, _, _, _, _, _, _, _, f6_13⟩
    · exact e14.out
  have HR : RR (w13.alloc (.cells #[.int .i64 1, v13, .int .i64 3, v6, .int .i64 4, v14] 217)) (some ⟨w13.heap.size, 0, none⟩) 3 (D.rls 3) := RR.new w13 _ _ rfl [(1, v13, .bu 10 1 1 100 11 11), (3, v6, .bu 10 2 4 100 12 14), (4, v14, .al)] hl _ rfl 3 rfl
  have ZR := (z13).alloc (.cells #[.int .i64 1, v13, .int .i64 3, v6, .int .i64 4, v14] 217)
  refine nextS 9 (by kernel_rfl) (by rfl) (fun o ho K hK => ?_)
  simp only [List.getElem?_toArray, List.getElem?_cons_succ, List.getElem?_cons_zero, Option.some.injEq] at ho; subst ho
  go_simp
  have sM : (fun W => Blk W w6.heap.size 217 #[.int .i64 3, v6]) (w13.alloc (.cells #[.int .i64 1, v13, .int .i64 3, v6, .int .i64 4, v14] 217)) := C_13.alloc _
  refine hK.out _ _ sM (fun _ => ?_)
  clear hK K
  try simp only [Act.put, List.setIfInBounds_toArray, List.set_cons_zero, List.set_cons_succ]
  refine takeS 10 (some 2) (.slice (some ⟨w13.heap.size, 0, none⟩) 3 3) (by kernel_rfl) (by kernel_rfl) (by kernel_rfl) (by kernel_rfl) (fun _ _ _ h => h) (by rfl) ?hya410 sM ?resta410
  case hya410 => (intro o ho W hW; simp only [List.getElem?_toArray, List.getElem?_cons_succ, List.getElem?_cons_zero, Option.some.injEq] at ho; subst ho; (try dsimp only at hW); skip; go_simp; try rfl)
  try simp only [Act.put, List.setIfInBounds_toArray, List.set_cons_zero, List.set_cons_succ]
  refine wpAnyH_done (by kernel_rfl) ?_ _
  refine NoPanic.normal ?_
  go_wp2
  go_ret
  exact ⟨_, _, _, rfl, HR, Nat.le_refl _, ZR.below⟩
end Go.Proofs.YtohhfcfnclafdaaGreatDoor
set_option linter.unusedVariables false
set_option linter.unusedSimpArgs false
set_option maxRecDepth 100000
namespace Go.Proofs.YtohhfcfnclafdaaGreatDoor
open Go.RowKit
attribute [local go_sem ↓] Go.wp_at_zero Go.wp_at_succ st_u bd_u
attribute [local go_sem] run_stu run_bdu
set_option maxHeartbeats 4000000 in
theorem rules_l11 (s : ByteArray) (w : World) (h : Tst s fun j => decide (j = 11 ∨ 16 ≤ j)) : Calls Tryz.prog 122 #[.string s] w fun e w' => ∃ A n c, e = .returned (.slice A n c) ∧ RR w' A n (D.rls 4) ∧ n ≤ c ∧ Below w.heap.size w w' := by
  obtain ⟨t0, t1, t2, t3, t4, t5, t6, t7, t8, t9, t10, t11, t12, t13, t14, t15⟩ := h
  replace t0 := t0.trans (by decide : _ = false)
  replace t1 := t1.trans (by decide : _ = false)
  replace t2 := t2.trans (by decide : _ = false)
  replace t3 := t3.trans (by decide : _ = false)
  replace t4 := t4.trans (by decide : _ = false)
  replace t5 := t5.trans (by decide : _ = false)
  replace t6 := t6.trans (by decide : _ = false)
  replace t7 := t7.trans (by decide : _ = false)
  replace t8 := t8.trans (by decide : _ = false)
  replace t9 := t9.trans (by decide : _ = false)
  replace t10 := t10.trans (by decide : _ = false)
  replace t11 := t11.trans (by decide : _ = true)
  replace t12 := t12.trans (by decide : _ = false)
  replace t13 := t13.trans (by decide : _ = false)
  replace t14 := t14.trans (by decide : _ = false)
  replace t15 := t15.trans (by decide : _ = false)
  go_enter Tryz.func122, Tryz.ntmps122
  go_wp2_with (first
    | (go_at_call 162; (with_reducible refine (am_11 w).mono ?_); rintro e w1 ⟨v1, g1, h1, rfl, f1, o1, b1⟩; have z1 := (Fw.self w).on b1)
    | (go_at_call 162; (with_reducible refine (am_24 (w1.alloc _)).mono ?_); rintro e w2 ⟨v2, g2, h2, rfl, f2, o2, b2⟩; have f1_2 := (f1.on (below_alloc_ w1 (.cells #[.int .i64 1, v1] 217))).on b2; have B_2 := (Blk.new w1 217 #[.int .i64 1, v1]).on b2; have z2 := (((z1).alloc (.cells #[.int .i64 1, v1] 217))).on b2)
    | (go_at_call 164; (with_reducible refine (re_10 _ _ _ _ _ _ f2).mono ?_); rintro e w3 ⟨v3, g3, h3, rfl, f3, o3, b3⟩; have f1_3 := f1_2.on b3; have B_3 := B_2.on b3; have f2_3 := f2.on b3; have z3 := (z2).on b3)
    | (go_at_call 162; (with_reducible refine (am_1214 _).mono ?_); rintro e w4 ⟨v4, g4, h4, rfl, f4, o4, b4⟩; have f1_4 := f1_3.on b4; have B_4 := B_3.on b4; have f2_4 := f2_3.on b4; have f3_4 := f3.on b4; have z4 := (z3).on b4)
    | (go_at_call 164; (with_reducible refine (re_100 _ _ _ _ _ _ f4).mono ?_); rintro e w5 ⟨v5, g5, h5, rfl, f5, o5, b5⟩; have f1_5 := f1_4.on b5; have B_5 := B_4.on b5; have f2_5 := f2_4.on b5; have f3_5 := f3_4.on b5; have f4_5 := f4.on b5; have z5 := (z4).on b5)
    | (go_at_call 163; (with_reducible refine (but_any _ _ _ _ _ _ _ _ _ _ _ _ _ _ _ _ _ f3_5 f5).mono ?_); rintro e w6 ⟨v6, g6, h6, rfl, f6, o6, b6⟩; have f1_6 := f1_5.on b6; have B_6 := B_5.on b6; have f2_6 := f2_5.on b6; have f3_6 := f3_5.on b6; have f4_6 := f4_5.on b6; have f5_6 := f5.on b6; have z6 := (z5).on b6)
    | (go_at_call 162; (with_reducible refine (am_1119 _).mono ?_); rintro e w7 ⟨v7, g7, h7, rfl, f7, o7, b7⟩; have f1_7 := (f1_6.on (below_alloc_ w6 (.cells #[.int .i64 3, v6] 217))).on b7; have B_7 := (B_6.on (below_alloc_ w6 (.cells #[.int .i64 3, v6] 217))).on b7; have f2_7 := (f2_6.on (below_alloc_ w6 (.cells #[.int .i64 3, v6] 217))).on b7; have f3_7 := (f3_6.on (below_alloc_ w6 (.cells #[.int .i64 3, v6] 217))).on b7; have f4_7 := (f4_6.on (below_alloc_ w6 (.cells #[.int .i64 3, v6] 217))).on b7; have f5_7 := (f5_6.on (below_alloc_ w6 (.cells #[.int .i64 3, v6] 217))).on b7; have f6_7 := (f6.on (below_alloc_ w6 (.cells #[.int .i64 3, v6] 217))).on b7; have C_7 := (Blk.new w6 217 #[.int .i64 3, v6]).on b7; have z7 := (((z6).alloc (.cells #[.int .i64 3, v6] 217))).on b7)
    | (go_at_call 164; (with_reducible refine (re_100 _ _ _ _ _ _ f7).mono ?_); rintro e w8 ⟨v8, g8, h8, rfl, f8, o8, b8⟩; have f1_8 := f1_7.on b8; have B_8 := B_7.on b8; have f2_8 := f2_7.on b8; have f3_8 := f3_7.on b8; have f4_8 := f4_7.on b8; have f5_8 := f5_7.on b8; have f6_8 := f6_7.on b8; have C_8 := C_7.on b8; have f7_8 := f7.on b8; have z8 := (z7).on b8)
    | fail)
  clear t0 t1 t2 t3 t4 t5 t6 t7 t8 t9 t10 t11 t12 t13 t14 t15
  have s8 : (fun W => Blk W w1.heap.size 217 #[.int .i64 1, v1] ∧ Blk W w6.heap.size 217 #[.int .i64 3, v6]) w8.drew := ⟨⟨B_8.out⟩, ⟨C_8.out⟩⟩
  refine wp_region_noPanic ?_
  refine wp_region_held_drew (S := (fun W => Blk W w1.heap.size 217 #[.int .i64 1, v1] ∧ Blk W w6.heap.size 217 #[.int .i64 3, v6])) (by kernel_rfl) s8 (fun _ => ?_)
  obtain ⟨wd, hwd⟩ : ∃ wd, w8.drew = wd := ⟨_, rfl⟩
  rw [hwd] at s8
  rw [hwd]
  have bd : Below w8.heap.size w8 wd := by rw [← hwd]; exact (Below.refl _ _).drew
  clear hwd
  have f1_d := f1_8.on bd
  have f6_d := f6_8.on bd
  have B_d := B_8.on bd
  have C_d := C_8.on bd
  have zd := (z8).on bd
  have sN := s8
  clear s8
  refine takeS 0 (some 46) (.agg #[.int .i64 1, v1]) (by kernel_rfl) (by kernel_rfl) (by kernel_rfl) (by kernel_rfl) (fun _ _ _ h => h) (by rfl) ?hya10 sN ?resta10
  case hya10 => (intro o ho W hW; simp only [List.getElem?_toArray, List.getElem?_cons_succ, List.getElem?_cons_zero, Option.some.injEq] at ho; subst ho; (try dsimp only at hW); have q0 := (hW.1).c 0; have q1 := (hW.1).c 1; simp only [List.getElem?_toArray, List.getElem?_cons_succ, List.getElem?_cons_zero] at q0 q1; go_simp; try rfl)
  try simp only [Act.put, List.setIfInBounds_toArray, List.set_cons_zero, List.set_cons_succ]
  refine takeS 1 (some 47) (.agg #[.int .i64 3, v6]) (by kernel_rfl) (by kernel_rfl) (by kernel_rfl) (by kernel_rfl) (fun _ _ _ h => h) (by rfl) ?hya21 sN ?resta21
  case hya21 => (intro o ho W hW; simp only [List.getElem?_toArray, List.getElem?_cons_succ, List.getElem?_cons_zero, Option.some.injEq] at ho; subst ho; (try dsimp only at hW); have q0 := (hW.2).c 0; have q1 := (hW.2).c 1; simp only [List.getElem?_toArray, List.getElem?_cons_succ, List.getElem?_cons_zero] at q0 q1; go_simp; try rfl)
  try simp only [Act.put, List.setIfInBounds_toArray, List.set_cons_zero, List.set_cons_succ]
  refine nextS 2 (by kernel_rfl) (by rfl) (fun o ho K hK => ?_)
  simp only [List.getElem?_toArray, List.getElem?_cons_succ, List.getElem?_cons_zero, Option.some.injEq] at ho; subst ho
  go_simp
  (go_at_call 165; (with_reducible refine ((all_any _)).mono ?_); rintro e _ ⟨v9, rfl, e9, o9, rfl⟩)
  have sM := sN
  refine hK.out _ _ sM (fun _ => ?_)
  clear hK K
  try simp only [Act.put, List.setIfInBounds_toArray, List.set_cons_zero, List.set_cons_succ]
  clear sN
  have sN := sM
  clear sM
  refine takeS 3 (some 49) (.agg #[.int .i64 4, v9]) (by kernel_rfl) (by kernel_rfl) (by kernel_rfl) (by kernel_rfl) (fun _ _ _ h => h) (by rfl) ?hya33 sN ?resta33
  case hya33 => (intro o ho W hW; simp only [List.getElem?_toArray, List.getElem?_cons_succ, List.getElem?_cons_zero, Option.some.injEq] at ho; subst ho; (try dsimp only at hW); skip; go_simp; try rfl)
  try simp only [Act.put, List.setIfInBounds_toArray, List.set_cons_zero, List.set_cons_succ]
  have hl : ∀ q ∈ ([(1, v1, .am 1 1), (3, v6, .bu 10 2 4 100 12 14), (4, v9, .al)] : List (Nat × Value × D.Ts)), FT wd q.2.1 q.2.2 := by
    intro q hq
    simp only [List.mem_cons, List.not_mem_nil, or_false] at hq
    rcases hq with rfl | rfl | rfl
    · exact ⟨_, _, f1_d⟩
    · exact ⟨by decide, by decide, _, _, _, _, _, _, _, _, _, _, f6_d⟩
    · exact e9.out
  have HR : RR (wd.alloc (.cells #[.int .i64 1, v1, .int .i64 3, v6, .int .i64 4, v9] 217)) (some ⟨wd.heap.size, 0, none⟩) 3 (D.rls 4) := RR.new wd _ _ rfl [(1, v1, .am 1 1), (3, v6, .bu 10 2 4 100 12 14), (4, v9, .al)] hl _ rfl 3 rfl
  have ZR := (zd).alloc (.cells #[.int .i64 1, v1, .int .i64 3, v6, .int .i64 4, v9] 217)
  refine nextS 4 (by kernel_rfl) (by rfl) (fun o ho K hK => ?_)
  simp only [List.getElem?_toArray, List.getElem?_cons_succ, List.getElem?_cons_zero, Option.some.injEq] at ho; subst ho
  go_simp
  have sM : (fun W => Blk W w1.heap.size 217 #[.int .i64 1, v1] ∧ Blk W w6.heap.size 217 #[.int .i64 3, v6]) (wd.alloc (.cells #[.int .i64 1, v1, .int .i64 3, v6, .int .i64 4, v9] 217)) := ⟨B_d.alloc _, C_d.alloc _⟩
  refine hK.out _ _ sM (fun _ => ?_)
  clear hK K
  try simp only [Act.put, List.setIfInBounds_toArray, List.set_cons_zero, List.set_cons_succ]
  refine takeS 5 (some 2) (.slice (some ⟨wd.heap.size, 0, none⟩) 3 3) (by kernel_rfl) (by kernel_rfl) (by kernel_rfl) (by kernel_rfl) (fun _ _ _ h => h) (by rfl) ?hya45 sM ?resta45
  case hya45 => (intro o ho W hW; simp only [List.getElem?_toArray, List.getElem?_cons_succ, List.getElem?_cons_zero, Option.some.injEq] at ho; subst ho; (try dsimp only at hW); skip; go_simp; try rfl)
  try simp only [Act.put, List.setIfInBounds_toArray, List.set_cons_zero, List.set_cons_succ]
  refine wpAnyH_done (by kernel_rfl) ?_ _
  refine NoPanic.normal ?_
  go_wp2
  go_ret
  exact ⟨_, _, _, rfl, HR, Nat.le_refl _, ZR.below⟩
set_option maxHeartbeats 4000000 in
theorem rules_l12 (s : ByteArray) (w : World) (h : Tst s fun j => decide (j = 12 ∨ 16 ≤ j)) : Calls Tryz.prog 122 #[.string s] w fun e w' => ∃ A n c, e = .returned (.slice A n c) ∧ RR w' A n (D.rls 5) ∧ n ≤ c ∧ Below w.heap.size w w' := by
  obtain ⟨t0, t1, t2, t3, t4, t5, t6, t7, t8, t9, t10, t11, t12, t13, t14, t15⟩ := h
  replace t0 := t0.trans (by decide : _ = false)
  replace t1 := t1.trans (by decide : _ = false)
  replace t2 := t2.trans (by decide : _ = false)
  replace t3 := t3.trans (by decide : _ = false)
  replace t4 := t4.trans (by decide : _ = false)
  replace t5 := t5.trans (by decide : _ = false)
  replace t6 := t6.trans (by decide : _ = false)
  replace t7 := t7.trans (by decide : _ = false)
  replace t8 := t8.trans (by decide : _ = false)
  replace t9 := t9.trans (by decide : _ = false)
  replace t10 := t10.trans (by decide : _ = false)
  replace t11 := t11.trans (by decide : _ = false)
  replace t12 := t12.trans (by decide : _ = true)
  replace t13 := t13.trans (by decide : _ = false)
  replace t14 := t14.trans (by decide : _ = false)
  replace t15 := t15.trans (by decide : _ = false)
  go_enter Tryz.func122, Tryz.ntmps122
  go_wp2_with (first
    | (go_at_call 162; (with_reducible refine (am_11 w).mono ?_); rintro e w1 ⟨v1, g1, h1, rfl, f1, o1, b1⟩; have z1 := (Fw.self w).on b1)
    | (go_at_call 162; (with_reducible refine (am_24 (w1.alloc _)).mono ?_); rintro e w2 ⟨v2, g2, h2, rfl, f2, o2, b2⟩; have f1_2 := (f1.on (below_alloc_ w1 (.cells #[.int .i64 1, v1] 217))).on b2; have B_2 := (Blk.new w1 217 #[.int .i64 1, v1]).on b2; have z2 := (((z1).alloc (.cells #[.int .i64 1, v1] 217))).on b2)
    | (go_at_call 164; (with_reducible refine (re_10 _ _ _ _ _ _ f2).mono ?_); rintro e w3 ⟨v3, g3, h3, rfl, f3, o3, b3⟩; have f1_3 := f1_2.on b3; have B_3 := B_2.on b3; have f2_3 := f2.on b3; have z3 := (z2).on b3)
    | (go_at_call 162; (with_reducible refine (am_1214 _).mono ?_); rintro e w4 ⟨v4, g4, h4, rfl, f4, o4, b4⟩; have f1_4 := f1_3.on b4; have B_4 := B_3.on b4; have f2_4 := f2_3.on b4; have f3_4 := f3.on b4; have z4 := (z3).on b4)
    | (go_at_call 164; (with_reducible refine (re_100 _ _ _ _ _ _ f4).mono ?_); rintro e w5 ⟨v5, g5, h5, rfl, f5, o5, b5⟩; have f1_5 := f1_4.on b5; have B_5 := B_4.on b5; have f2_5 := f2_4.on b5; have f3_5 := f3_4.on b5; have f4_5 := f4.on b5; have z5 := (z4).on b5)
    | (go_at_call 163; (with_reducible refine (but_any _ _ _ _ _ _ _ _ _ _ _ _ _ _ _ _ _ f3_5 f5).mono ?_); rintro e w6 ⟨v6, g6, h6, rfl, f6, o6, b6⟩; have f1_6 := f1_5.on b6; have B_6 := B_5.on b6; have f2_6 := f2_5.on b6; have f3_6 := f3_5.on b6; have f4_6 := f4_5.on b6; have f5_6 := f5.on b6; have z6 := (z5).on b6)
    | (go_at_call 162; (with_reducible refine (am_1119 _).mono ?_); rintro e w7 ⟨v7, g7, h7, rfl, f7, o7, b7⟩; have f1_7 := (f1_6.on (below_alloc_ w6 (.cells #[.int .i64 3, v6] 217))).on b7; have B_7 := (B_6.on (below_alloc_ w6 (.cells #[.int .i64 3, v6] 217))).on b7; have f2_7 := (f2_6.on (below_alloc_ w6 (.cells #[.int .i64 3, v6] 217))).on b7; have f3_7 := (f3_6.on (below_alloc_ w6 (.cells #[.int .i64 3, v6] 217))).on b7; have f4_7 := (f4_6.on (below_alloc_ w6 (.cells #[.int .i64 3, v6] 217))).on b7; have f5_7 := (f5_6.on (below_alloc_ w6 (.cells #[.int .i64 3, v6] 217))).on b7; have f6_7 := (f6.on (below_alloc_ w6 (.cells #[.int .i64 3, v6] 217))).on b7; have C_7 := (Blk.new w6 217 #[.int .i64 3, v6]).on b7; have z7 := (((z6).alloc (.cells #[.int .i64 3, v6] 217))).on b7)
    | (go_at_call 164; (with_reducible refine (re_100 _ _ _ _ _ _ f7).mono ?_); rintro e w8 ⟨v8, g8, h8, rfl, f8, o8, b8⟩; have f1_8 := f1_7.on b8; have B_8 := B_7.on b8; have f2_8 := f2_7.on b8; have f3_8 := f3_7.on b8; have f4_8 := f4_7.on b8; have f5_8 := f5_7.on b8; have f6_8 := f6_7.on b8; have C_8 := C_7.on b8; have f7_8 := f7.on b8; have z8 := (z7).on b8)
    | fail)
  clear t0 t1 t2 t3 t4 t5 t6 t7 t8 t9 t10 t11 t12 t13 t14 t15
  have s8 : (fun W => Blk W w1.heap.size 217 #[.int .i64 1, v1]) w8.drew := ⟨B_8.out⟩
  refine wp_region_noPanic ?_
  refine wp_region_held_drew (S := (fun W => Blk W w1.heap.size 217 #[.int .i64 1, v1])) (by kernel_rfl) s8 (fun _ => ?_)
  obtain ⟨wd, hwd⟩ : ∃ wd, w8.drew = wd := ⟨_, rfl⟩
  rw [hwd] at s8
  rw [hwd]
  have bd : Below w8.heap.size w8 wd := by rw [← hwd]; exact (Below.refl _ _).drew
  clear hwd
  have f1_d := f1_8.on bd
  have f6_d := f6_8.on bd
  have B_d := B_8.on bd
  have C_d := C_8.on bd
  have zd := (z8).on bd
  have sN := s8
  clear s8
  refine takeS 0 (some 54) (.agg #[.int .i64 1, v1]) (by kernel_rfl) (by kernel_rfl) (by kernel_rfl) (by kernel_rfl) (fun _ _ _ h => h) (by rfl) ?hya10 sN ?resta10
  case hya10 => (intro o ho W hW; simp only [List.getElem?_toArray, List.getElem?_cons_succ, List.getElem?_cons_zero, Option.some.injEq] at ho; subst ho; (try dsimp only at hW); have q0 := (hW).c 0; have q1 := (hW).c 1; simp only [List.getElem?_toArray, List.getElem?_cons_succ, List.getElem?_cons_zero] at q0 q1; go_simp; try rfl)
  try simp only [Act.put, List.setIfInBounds_toArray, List.set_cons_zero, List.set_cons_succ]
  refine nextS 1 (by kernel_rfl) (by rfl) (fun o ho K hK => ?_)
  simp only [List.getElem?_toArray, List.getElem?_cons_succ, List.getElem?_cons_zero, Option.some.injEq] at ho; subst ho
  go_simp
  (go_at_call 162; (with_reducible refine (am_24 _).mono ?_); rintro e w9 ⟨v9, g9, h9, rfl, f9, o9, b9⟩)
  have f1_9 := f1_d.on b9
  have B_9 := B_d.on b9
  have f6_9 := f6_d.on b9
  have C_9 := C_d.on b9
  have z9 := (zd).on b9
  have sM : (fun W => Blk W w1.heap.size 217 #[.int .i64 1, v1]) w9 := B_9
  refine hK.out _ _ sM (fun _ => ?_)
  clear hK K
  try simp only [Act.put, List.setIfInBounds_toArray, List.set_cons_zero, List.set_cons_succ]
  clear sN
  have sN := sM
  clear sM
  refine takeS 2 (some 56) (.agg #[.int .i64 3, v9]) (by kernel_rfl) (by kernel_rfl) (by kernel_rfl) (by kernel_rfl) (fun _ _ _ h => h) (by rfl) ?hya22 sN ?resta22
  case hya22 => (intro o ho W hW; simp only [List.getElem?_toArray, List.getElem?_cons_succ, List.getElem?_cons_zero, Option.some.injEq] at ho; subst ho; (try dsimp only at hW); skip; go_simp; try rfl)
  try simp only [Act.put, List.setIfInBounds_toArray, List.set_cons_zero, List.set_cons_succ]
  have hl : ∀ q ∈ ([(1, v1, .am 1 1), (3, v9, .am 2 4)] : List (Nat × Value × D.Ts)), FT w9 q.2.1 q.2.2 := by
    intro q hq
    simp only [List.mem_cons, List.not_mem_nil, or_false] at hq
    rcases hq with rfl | rfl
    · exact ⟨_, _, f1_9⟩
    · exact ⟨_, _, f9⟩
  have HR : RR (w9.alloc (.cells #[.int .i64 1, v1, .int .i64 3, v9] 217)) (some ⟨w9.heap.size, 0, none⟩) 2 (D.rls 5) := RR.new w9 _ _ rfl [(1, v1, .am 1 1), (3, v9, .am 2 4)] hl _ rfl 2 rfl
  have ZR := (z9).alloc (.cells #[.int .i64 1, v1, .int .i64 3, v9] 217)
  refine nextS 3 (by kernel_rfl) (by rfl) (fun o ho K hK => ?_)
  simp only [List.getElem?_toArray, List.getElem?_cons_succ, List.getElem?_cons_zero, Option.some.injEq] at ho; subst ho
  go_simp
  have sM : (fun W => Blk W w1.heap.size 217 #[.int .i64 1, v1]) (w9.alloc (.cells #[.int .i64 1, v1, .int .i64 3, v9] 217)) := B_9.alloc _
  refine hK.out _ _ sM (fun _ => ?_)
  clear hK K
  try simp only [Act.put, List.setIfInBounds_toArray, List.set_cons_zero, List.set_cons_succ]
  refine takeS 4 (some 2) (.slice (some ⟨w9.heap.size, 0, none⟩) 2 2) (by kernel_rfl) (by kernel_rfl) (by kernel_rfl) (by kernel_rfl) (fun _ _ _ h => h) (by rfl) ?hya34 sM ?resta34
  case hya34 => (intro o ho W hW; simp only [List.getElem?_toArray, List.getElem?_cons_succ, List.getElem?_cons_zero, Option.some.injEq] at ho; subst ho; (try dsimp only at hW); skip; go_simp; try rfl)
  try simp only [Act.put, List.setIfInBounds_toArray, List.set_cons_zero, List.set_cons_succ]
  refine wpAnyH_done (by kernel_rfl) ?_ _
  refine NoPanic.normal ?_
  go_wp2
  go_ret
  exact ⟨_, _, _, rfl, HR, Nat.le_refl _, ZR.below⟩
set_option maxHeartbeats 4000000 in
theorem rules_l13 (s : ByteArray) (w : World) (h : Tst s fun j => decide (j = 13 ∨ 16 ≤ j)) : Calls Tryz.prog 122 #[.string s] w fun e w' => ∃ A n c, e = .returned (.slice A n c) ∧ RR w' A n (D.rls 5) ∧ n ≤ c ∧ Below w.heap.size w w' := by
  obtain ⟨t0, t1, t2, t3, t4, t5, t6, t7, t8, t9, t10, t11, t12, t13, t14, t15⟩ := h
  replace t0 := t0.trans (by decide : _ = false)
  replace t1 := t1.trans (by decide : _ = false)
  replace t2 := t2.trans (by decide : _ = false)
  replace t3 := t3.trans (by decide : _ = false)
  replace t4 := t4.trans (by decide : _ = false)
  replace t5 := t5.trans (by decide : _ = false)
  replace t6 := t6.trans (by decide : _ = false)
  replace t7 := t7.trans (by decide : _ = false)
  replace t8 := t8.trans (by decide : _ = false)
  replace t9 := t9.trans (by decide : _ = false)
  replace t10 := t10.trans (by decide : _ = false)
  replace t11 := t11.trans (by decide : _ = false)
  replace t12 := t12.trans (by decide : _ = false)
  replace t13 := t13.trans (by decide : _ = true)
  replace t14 := t14.trans (by decide : _ = false)
  replace t15 := t15.trans (by decide : _ = false)
  go_enter Tryz.func122, Tryz.ntmps122
  go_wp2_with (first
    | (go_at_call 162; (with_reducible refine (am_11 w).mono ?_); rintro e w1 ⟨v1, g1, h1, rfl, f1, o1, b1⟩; have z1 := (Fw.self w).on b1)
    | (go_at_call 162; (with_reducible refine (am_24 (w1.alloc _)).mono ?_); rintro e w2 ⟨v2, g2, h2, rfl, f2, o2, b2⟩; have f1_2 := (f1.on (below_alloc_ w1 (.cells #[.int .i64 1, v1] 217))).on b2; have B_2 := (Blk.new w1 217 #[.int .i64 1, v1]).on b2; have z2 := (((z1).alloc (.cells #[.int .i64 1, v1] 217))).on b2)
    | (go_at_call 164; (with_reducible refine (re_10 _ _ _ _ _ _ f2).mono ?_); rintro e w3 ⟨v3, g3, h3, rfl, f3, o3, b3⟩; have f1_3 := f1_2.on b3; have B_3 := B_2.on b3; have f2_3 := f2.on b3; have z3 := (z2).on b3)
    | (go_at_call 162; (with_reducible refine (am_1214 _).mono ?_); rintro e w4 ⟨v4, g4, h4, rfl, f4, o4, b4⟩; have f1_4 := f1_3.on b4; have B_4 := B_3.on b4; have f2_4 := f2_3.on b4; have f3_4 := f3.on b4; have z4 := (z3).on b4)
    | (go_at_call 164; (with_reducible refine (re_100 _ _ _ _ _ _ f4).mono ?_); rintro e w5 ⟨v5, g5, h5, rfl, f5, o5, b5⟩; have f1_5 := f1_4.on b5; have B_5 := B_4.on b5; have f2_5 := f2_4.on b5; have f3_5 := f3_4.on b5; have f4_5 := f4.on b5; have z5 := (z4).on b5)
    | (go_at_call 163; (with_reducible refine (but_any _ _ _ _ _ _ _ _ _ _ _ _ _ _ _ _ _ f3_5 f5).mono ?_); rintro e w6 ⟨v6, g6, h6, rfl, f6, o6, b6⟩; have f1_6 := f1_5.on b6; have B_6 := B_5.on b6; have f2_6 := f2_5.on b6; have f3_6 := f3_5.on b6; have f4_6 := f4_5.on b6; have f5_6 := f5.on b6; have z6 := (z5).on b6)
    | (go_at_call 162; (with_reducible refine (am_1119 _).mono ?_); rintro e w7 ⟨v7, g7, h7, rfl, f7, o7, b7⟩; have f1_7 := (f1_6.on (below_alloc_ w6 (.cells #[.int .i64 3, v6] 217))).on b7; have B_7 := (B_6.on (below_alloc_ w6 (.cells #[.int .i64 3, v6] 217))).on b7; have f2_7 := (f2_6.on (below_alloc_ w6 (.cells #[.int .i64 3, v6] 217))).on b7; have f3_7 := (f3_6.on (below_alloc_ w6 (.cells #[.int .i64 3, v6] 217))).on b7; have f4_7 := (f4_6.on (below_alloc_ w6 (.cells #[.int .i64 3, v6] 217))).on b7; have f5_7 := (f5_6.on (below_alloc_ w6 (.cells #[.int .i64 3, v6] 217))).on b7; have f6_7 := (f6.on (below_alloc_ w6 (.cells #[.int .i64 3, v6] 217))).on b7; have C_7 := (Blk.new w6 217 #[.int .i64 3, v6]).on b7; have z7 := (((z6).alloc (.cells #[.int .i64 3, v6] 217))).on b7)
    | (go_at_call 164; (with_reducible refine (re_100 _ _ _ _ _ _ f7).mono ?_); rintro e w8 ⟨v8, g8, h8, rfl, f8, o8, b8⟩; have f1_8 := f1_7.on b8; have B_8 := B_7.on b8; have f2_8 := f2_7.on b8; have f3_8 := f3_7.on b8; have f4_8 := f4_7.on b8; have f5_8 := f5_7.on b8; have f6_8 := f6_7.on b8; have C_8 := C_7.on b8; have f7_8 := f7.on b8; have z8 := (z7).on b8)
    | fail)
  clear t0 t1 t2 t3 t4 t5 t6 t7 t8 t9 t10 t11 t12 t13 t14 t15
  have s8 : (fun W => Blk W w1.heap.size 217 #[.int .i64 1, v1]) w8.drew := ⟨B_8.out⟩
  refine wp_region_noPanic ?_
  refine wp_region_held_drew (S := (fun W => Blk W w1.heap.size 217 #[.int .i64 1, v1])) (by kernel_rfl) s8 (fun _ => ?_)
  obtain ⟨wd, hwd⟩ : ∃ wd, w8.drew = wd := ⟨_, rfl⟩
  rw [hwd] at s8
  rw [hwd]
  have bd : Below w8.heap.size w8 wd := by rw [← hwd]; exact (Below.refl _ _).drew
  clear hwd
  have f1_d := f1_8.on bd
  have f6_d := f6_8.on bd
  have B_d := B_8.on bd
  have C_d := C_8.on bd
  have zd := (z8).on bd
  have sN := s8
  clear s8
  refine takeS 0 (some 54) (.agg #[.int .i64 1, v1]) (by kernel_rfl) (by kernel_rfl) (by kernel_rfl) (by kernel_rfl) (fun _ _ _ h => h) (by rfl) ?hya10 sN ?resta10
  case hya10 => (intro o ho W hW; simp only [List.getElem?_toArray, List.getElem?_cons_succ, List.getElem?_cons_zero, Option.some.injEq] at ho; subst ho; (try dsimp only at hW); have q0 := (hW).c 0; have q1 := (hW).c 1; simp only [List.getElem?_toArray, List.getElem?_cons_succ, List.getElem?_cons_zero] at q0 q1; go_simp; try rfl)
  try simp only [Act.put, List.setIfInBounds_toArray, List.set_cons_zero, List.set_cons_succ]
  refine nextS 1 (by kernel_rfl) (by rfl) (fun o ho K hK => ?_)
  simp only [List.getElem?_toArray, List.getElem?_cons_succ, List.getElem?_cons_zero, Option.some.injEq] at ho; subst ho
  go_simp
  (go_at_call 162; (with_reducible refine (am_24 _).mono ?_); rintro e w9 ⟨v9, g9, h9, rfl, f9, o9, b9⟩)
  have f1_9 := f1_d.on b9
  have B_9 := B_d.on b9
  have f6_9 := f6_d.on b9
  have C_9 := C_d.on b9
  have z9 := (zd).on b9
  have sM : (fun W => Blk W w1.heap.size 217 #[.int .i64 1, v1]) w9 := B_9
  refine hK.out _ _ sM (fun _ => ?_)
  clear hK K
  try simp only [Act.put, List.setIfInBounds_toArray, List.set_cons_zero, List.set_cons_succ]
  clear sN
  have sN := sM
  clear sM
  refine takeS 2 (some 56) (.agg #[.int .i64 3, v9]) (by kernel_rfl) (by kernel_rfl) (by kernel_rfl) (by kernel_rfl) (fun _ _ _ h => h) (by rfl) ?hya22 sN ?resta22
  case hya22 => (intro o ho W hW; simp only [List.getElem?_toArray, List.getElem?_cons_succ, List.getElem?_cons_zero, Option.some.injEq] at ho; subst ho; (try dsimp only at hW); skip; go_simp; try rfl)
  try simp only [Act.put, List.setIfInBounds_toArray, List.set_cons_zero, List.set_cons_succ]
  have hl : ∀ q ∈ ([(1, v1, .am 1 1), (3, v9, .am 2 4)] : List (Nat × Value × D.Ts)), FT w9 q.2.1 q.2.2 := by
    intro q hq
    simp only [List.mem_cons, List.not_mem_nil, or_false] at hq
    rcases hq with rfl | rfl
    · exact ⟨_, _, f1_9⟩
    · exact ⟨_, _, f9⟩
  have HR : RR (w9.alloc (.cells #[.int .i64 1, v1, .int .i64 3, v9] 217)) (some ⟨w9.heap.size, 0, none⟩) 2 (D.rls 5) := RR.new w9 _ _ rfl [(1, v1, .am 1 1), (3, v9, .am 2 4)] hl _ rfl 2 rfl
  have ZR := (z9).alloc (.cells #[.int .i64 1, v1, .int .i64 3, v9] 217)
  refine nextS 3 (by kernel_rfl) (by rfl) (fun o ho K hK => ?_)
  simp only [List.getElem?_toArray, List.getElem?_cons_succ, List.getElem?_cons_zero, Option.some.injEq] at ho; subst ho
  go_simp
  have sM : (fun W => Blk W w1.heap.size 217 #[.int .i64 1, v1]) (w9.alloc (.cells #[.int .i64 1, v1, .int .i64 3, v9] 217)) := B_9.alloc _
  refine hK.out _ _ sM (fun _ => ?_)
  clear hK K
  try simp only [Act.put, List.setIfInBounds_toArray, List.set_cons_zero, List.set_cons_succ]
  refine takeS 4 (some 2) (.slice (some ⟨w9.heap.size, 0, none⟩) 2 2) (by kernel_rfl) (by kernel_rfl) (by kernel_rfl) (by kernel_rfl) (fun _ _ _ h => h) (by rfl) ?hya34 sM ?resta34
  case hya34 => (intro o ho W hW; simp only [List.getElem?_toArray, List.getElem?_cons_succ, List.getElem?_cons_zero, Option.some.injEq] at ho; subst ho; (try dsimp only at hW); skip; go_simp; try rfl)
  try simp only [Act.put, List.setIfInBounds_toArray, List.set_cons_zero, List.set_cons_succ]
  refine wpAnyH_done (by kernel_rfl) ?_ _
  refine NoPanic.normal ?_
  go_wp2
  go_ret
  exact ⟨_, _, _, rfl, HR, Nat.le_refl _, ZR.below⟩
set_option maxHeartbeats 4000000 in
theorem rules_l14 (s : ByteArray) (w : World) (h : Tst s fun j => decide (j = 14 ∨ 16 ≤ j)) : Calls Tryz.prog 122 #[.string s] w fun e w' => ∃ A n c, e = .returned (.slice A n c) ∧ RR w' A n (D.rls 6) ∧ n ≤ c ∧ Below w.heap.size w w' := by
  obtain ⟨t0, t1, t2, t3, t4, t5, t6, t7, t8, t9, t10, t11, t12, t13, t14, t15⟩ := h
  replace t0 := t0.trans (by decide : _ = false)
  replace t1 := t1.trans (by decide : _ = false)
  replace t2 := t2.trans (by decide : _ = false)
  replace t3 := t3.trans (by decide : _ = false)
  replace t4 := t4.trans (by decide : _ = false)
  replace t5 := t5.trans (by decide : _ = false)
  replace t6 := t6.trans (by decide : _ = false)
  replace t7 := t7.trans (by decide : _ = false)
  replace t8 := t8.trans (by decide : _ = false)
  replace t9 := t9.trans (by decide : _ = false)
  replace t10 := t10.trans (by decide : _ = false)
  replace t11 := t11.trans (by decide : _ = false)
  replace t12 := t12.trans (by decide : _ = false)
  replace t13 := t13.trans (by decide : _ = false)
  replace t14 := t14.trans (by decide : _ = true)
  replace t15 := t15.trans (by decide : _ = false)
  go_enter Tryz.func122, Tryz.ntmps122
  go_wp2_with (first
    | (go_at_call 162; (with_reducible refine (am_11 w).mono ?_); rintro e w1 ⟨v1, g1, h1, rfl, f1, o1, b1⟩; have z1 := (Fw.self w).on b1)
    | (go_at_call 162; (with_reducible refine (am_24 (w1.alloc _)).mono ?_); rintro e w2 ⟨v2, g2, h2, rfl, f2, o2, b2⟩; have f1_2 := (f1.on (below_alloc_ w1 (.cells #[.int .i64 1, v1] 217))).on b2; have B_2 := (Blk.new w1 217 #[.int .i64 1, v1]).on b2; have z2 := (((z1).alloc (.cells #[.int .i64 1, v1] 217))).on b2)
    | (go_at_call 164; (with_reducible refine (re_10 _ _ _ _ _ _ f2).mono ?_); rintro e w3 ⟨v3, g3, h3, rfl, f3, o3, b3⟩; have f1_3 := f1_2.on b3; have B_3 := B_2.on b3; have f2_3 := f2.on b3; have z3 := (z2).on b3)
    | (go_at_call 162; (with_reducible refine (am_1214 _).mono ?_); rintro e w4 ⟨v4, g4, h4, rfl, f4, o4, b4⟩; have f1_4 := f1_3.on b4; have B_4 := B_3.on b4; have f2_4 := f2_3.on b4; have f3_4 := f3.on b4; have z4 := (z3).on b4)
    | (go_at_call 164; (with_reducible refine (re_100 _ _ _ _ _ _ f4).mono ?_); rintro e w5 ⟨v5, g5, h5, rfl, f5, o5, b5⟩; have f1_5 := f1_4.on b5; have B_5 := B_4.on b5; have f2_5 := f2_4.on b5; have f3_5 := f3_4.on b5; have f4_5 := f4.on b5; have z5 := (z4).on b5)
    | (go_at_call 163; (with_reducible refine (but_any _ _ _ _ _ _ _ _ _ _ _ _ _ _ _ _ _ f3_5 f5).mono ?_); rintro e w6 ⟨v6, g6, h6, rfl, f6, o6, b6⟩; have f1_6 := f1_5.on b6; have B_6 := B_5.on b6; have f2_6 := f2_5.on b6; have f3_6 := f3_5.on b6; have f4_6 := f4_5.on b6; have f5_6 := f5.on b6; have z6 := (z5).on b6)
    | (go_at_call 162; (with_reducible refine (am_1119 _).mono ?_); rintro e w7 ⟨v7, g7, h7, rfl, f7, o7, b7⟩; have f1_7 := (f1_6.on (below_alloc_ w6 (.cells #[.int .i64 3, v6] 217))).on b7; have B_7 := (B_6.on (below_alloc_ w6 (.cells #[.int .i64 3, v6] 217))).on b7; have f2_7 := (f2_6.on (below_alloc_ w6 (.cells #[.int .i64 3, v6] 217))).on b7; have f3_7 := (f3_6.on (below_alloc_ w6 (.cells #[.int .i64 3, v6] 217))).on b7; have f4_7 := (f4_6.on (below_alloc_ w6 (.cells #[.int .i64 3, v6] 217))).on b7; have f5_7 := (f5_6.on (below_alloc_ w6 (.cells #[.int .i64 3, v6] 217))).on b7; have f6_7 := (f6.on (below_alloc_ w6 (.cells #[.int .i64 3, v6] 217))).on b7; have C_7 := (Blk.new w6 217 #[.int .i64 3, v6]).on b7; have z7 := (((z6).alloc (.cells #[.int .i64 3, v6] 217))).on b7)
    | (go_at_call 164; (with_reducible refine (re_100 _ _ _ _ _ _ f7).mono ?_); rintro e w8 ⟨v8, g8, h8, rfl, f8, o8, b8⟩; have f1_8 := f1_7.on b8; have B_8 := B_7.on b8; have f2_8 := f2_7.on b8; have f3_8 := f3_7.on b8; have f4_8 := f4_7.on b8; have f5_8 := f5_7.on b8; have f6_8 := f6_7.on b8; have C_8 := C_7.on b8; have f7_8 := f7.on b8; have z8 := (z7).on b8)
    | fail)
  clear t0 t1 t2 t3 t4 t5 t6 t7 t8 t9 t10 t11 t12 t13 t14 t15
  have s8 : (fun W => Blk W w1.heap.size 217 #[.int .i64 1, v1]) w8.drew := ⟨B_8.out⟩
  refine wp_region_noPanic ?_
  refine wp_region_held_drew (S := (fun W => Blk W w1.heap.size 217 #[.int .i64 1, v1])) (by kernel_rfl) s8 (fun _ => ?_)
  obtain ⟨wd, hwd⟩ : ∃ wd, w8.drew = wd := ⟨_, rfl⟩
  rw [hwd] at s8
  rw [hwd]
  have bd : Below w8.heap.size w8 wd := by rw [← hwd]; exact (Below.refl _ _).drew
  clear hwd
  have f1_d := f1_8.on bd
  have f6_d := f6_8.on bd
  have B_d := B_8.on bd
  have C_d := C_8.on bd
  have zd := (z8).on bd
  have sN := s8
  clear s8
  refine takeS 2 (some 62) (.agg #[.int .i64 1, v1]) (by kernel_rfl) (by kernel_rfl) (by kernel_rfl) (by kernel_rfl) (fun _ _ _ h => h) (by rfl) ?hya12 sN ?resta12
  case hya12 => (intro o ho W hW; simp only [List.getElem?_toArray, List.getElem?_cons_succ, List.getElem?_cons_zero, Option.some.injEq] at ho; subst ho; (try dsimp only at hW); have q0 := (hW).c 0; have q1 := (hW).c 1; simp only [List.getElem?_toArray, List.getElem?_cons_succ, List.getElem?_cons_zero] at q0 q1; go_simp; try rfl)
  try simp only [Act.put, List.setIfInBounds_toArray, List.set_cons_zero, List.set_cons_succ]
  refine nextS 0 (by kernel_rfl) (by rfl) (fun o ho K hK => ?_)
  simp only [List.getElem?_toArray, List.getElem?_cons_succ, List.getElem?_cons_zero, Option.some.injEq] at ho; subst ho
  go_simp
  (go_at_call 162; (with_reducible refine (am_00 _).mono ?_); rintro e w9 ⟨v9, g9, h9, rfl, f9, o9, b9⟩)
  have f1_9 := f1_d.on b9
  have B_9 := B_d.on b9
  have f6_9 := f6_d.on b9
  have C_9 := C_d.on b9
  have z9 := (zd).on b9
  have sM : (fun W => Blk W w1.heap.size 217 #[.int .i64 1, v1]) w9 := B_9
  refine hK.out _ _ sM (fun _ => ?_)
  clear hK K
  try simp only [Act.put, List.setIfInBounds_toArray, List.set_cons_zero, List.set_cons_succ]
  clear sN
  have sN := sM
  clear sM
  refine takeS 1 (some 61) (.agg #[.int .i64 0, v9]) (by kernel_rfl) (by kernel_rfl) (by kernel_rfl) (by kernel_rfl) (fun _ _ _ h => h) (by rfl) ?hya21 sN ?resta21
  case hya21 => (intro o ho W hW; simp only [List.getElem?_toArray, List.getElem?_cons_succ, List.getElem?_cons_zero, Option.some.injEq] at ho; subst ho; (try dsimp only at hW); skip; go_simp; try rfl)
  try simp only [Act.put, List.setIfInBounds_toArray, List.set_cons_zero, List.set_cons_succ]
  refine nextS 3 (by kernel_rfl) (by rfl) (fun o ho K hK => ?_)
  simp only [List.getElem?_toArray, List.getElem?_cons_succ, List.getElem?_cons_zero, Option.some.injEq] at ho; subst ho
  go_simp
  (go_at_call 162; (with_reducible refine (am_22 _).mono ?_); rintro e w10 ⟨v10, g10, h10, rfl, f10, o10, b10⟩)
  have f1_10 := f1_9.on b10
  have B_10 := B_9.on b10
  have f6_10 := f6_9.on b10
  have C_10 := C_9.on b10
  have f9_10 := f9.on b10
  have z10 := (z9).on b10
  have sM : (fun W => Blk W w1.heap.size 217 #[.int .i64 1, v1]) w10 := B_10
  refine hK.out _ _ sM (fun _ => ?_)
  clear hK K
  try simp only [Act.put, List.setIfInBounds_toArray, List.set_cons_zero, List.set_cons_succ]
  clear sN
  have sN := sM
  clear sM
  refine takeS 4 (some 64) (.agg #[.int .i64 2, v10]) (by kernel_rfl) (by kernel_rfl) (by kernel_rfl) (by kernel_rfl) (fun _ _ _ h => h) (by rfl) ?hya34 sN ?resta34
  case hya34 => (intro o ho W hW; simp only [List.getElem?_toArray, List.getElem?_cons_succ, List.getElem?_cons_zero, Option.some.injEq] at ho; subst ho; (try dsimp only at hW); skip; go_simp; try rfl)
  try simp only [Act.put, List.setIfInBounds_toArray, List.set_cons_zero, List.set_cons_succ]
  refine nextS 5 (by kernel_rfl) (by rfl) (fun o ho K hK => ?_)
  simp only [List.getElem?_toArray, List.getElem?_cons_succ, List.getElem?_cons_zero, Option.some.injEq] at ho; subst ho
  go_simp
  (go_at_call 162; (with_reducible refine (am_310 _).mono ?_); rintro e w11 ⟨v11, g11, h11, rfl, f11, o11, b11⟩)
  have f1_11 := f1_10.on b11
  have B_11 := B_10.on b11
  have f6_11 := f6_10.on b11
  have C_11 := C_10.on b11
  have f9_11 := f9_10.on b11
  have f10_11 := f10.on b11
  have z11 := (z10).on b11
  have sM : (fun W => Blk W w1.heap.size 217 #[.int .i64 1, v1]) w11 := B_11
  refine hK.out _ _ sM (fun _ => ?_)
  clear hK K
  try simp only [Act.put, List.setIfInBounds_toArray, List.set_cons_zero, List.set_cons_succ]
  clear sN
  have sN := sM
  clear sM
  refine nextS 6 (by kernel_rfl) (by rfl) (fun o ho K hK => ?_)
  simp only [List.getElem?_toArray, List.getElem?_cons_succ, List.getElem?_cons_zero, Option.some.injEq] at ho; subst ho
  go_simp
  (go_at_call 164; (with_reducible refine (re_100 _ _ _ _ _ _ f11).mono ?_); rintro e w12 ⟨v12, g12, h12, rfl, f12, o12, b12⟩)
  have f1_12 := f1_11.on b12
  have B_12 := B_11.on b12
  have f6_12 := f6_11.on b12
  have C_12 := C_11.on b12
  have f9_12 := f9_11.on b12
  have f10_12 := f10_11.on b12
  have f11_12 := f11.on b12
  have z12 := (z11).on b12
  have sM : (fun W => Blk W w1.heap.size 217 #[.int .i64 1, v1]) w12 := B_12
  refine hK.out _ _ sM (fun _ => ?_)
  clear hK K
  try simp only [Act.put, List.setIfInBounds_toArray, List.set_cons_zero, List.set_cons_succ]
  clear sN
  have sN := sM
  clear sM
  refine takeS 7 (some 67) (.agg #[.int .i64 3, v12]) (by kernel_rfl) (by kernel_rfl) (by kernel_rfl) (by kernel_rfl) (fun _ _ _ h => h) (by rfl) ?hya47 sN ?resta47
  case hya47 => (intro o ho W hW; simp only [List.getElem?_toArray, List.getElem?_cons_succ, List.getElem?_cons_zero, Option.some.injEq] at ho; subst ho; (try dsimp only at hW); skip; go_simp; try rfl)
  try simp only [Act.put, List.setIfInBounds_toArray, List.set_cons_zero, List.set_cons_succ]
  refine nextS 8 (by kernel_rfl) (by rfl) (fun o ho K hK => ?_)
  simp only [List.getElem?_toArray, List.getElem?_cons_succ, List.getElem?_cons_zero, Option.some.injEq] at ho; subst ho
  go_simp
  (go_at_call 162; (with_reducible refine (am_1199 _).mono ?_); rintro e w13 ⟨v13, g13, h13, rfl, f13, o13, b13⟩)
  have f1_13 := f1_12.on b13
  have B_13 := B_12.on b13
  have f6_13 := f6_12.on b13
  have C_13 := C_12.on b13
  have f9_13 := f9_12.on b13
  have f10_13 := f10_12.on b13
  have f11_13 := f11_12.on b13
  have f12_13 := f12.on b13
  have z13 := (z12).on b13
  have sM : (fun W => Blk W w1.heap.size 217 #[.int .i64 1, v1]) w13 := B_13
  refine hK.out _ _ sM (fun _ => ?_)
  clear hK K
  try simp only [Act.put, List.setIfInBounds_toArray, List.set_cons_zero, List.set_cons_succ]
  clear sN
  have sN := sM
  clear sM
  refine nextS 9 (by kernel_rfl) (by rfl) (fun o ho K hK => ?_)
  simp only [List.getElem?_toArray, List.getElem?_cons_succ, List.getElem?_cons_zero, Option.some.injEq] at ho; subst ho
  go_simp
  (go_at_call 164; (with_reducible refine (re_100 _ _ _ _ _ _ f13).mono ?_); rintro e w14 ⟨v14, g14, h14, rfl, f14, o14, b14⟩)
  have f1_14 := f1_13.on b14
  have B_14 := B_13.on b14
  have f6_14 := f6_13.on b14
  have C_14 := C_13.on b14
  have f9_14 := f9_13.on b14
  have f10_14 := f10_13.on b14
  have f11_14 := f11_13.on b14
  have f12_14 := f12_13.on b14
  have f13_14 := f13.on b14
  have z14 := (z13).on b14
  have sM : (fun W => Blk W w1.heap.size 217 #[.int .i64 1, v1]) w14 := B_14
  refine hK.out _ _ sM (fun _ => ?_)
  clear hK K
  try simp only [Act.put, List.setIfInBounds_toArray, List.set_cons_zero, List.set_cons_succ]
  clear sN
  have sN := sM
  clear sM
  refine takeS 10 (some 70) (.agg #[.int .i64 4, v14]) (by kernel_rfl) (by kernel_rfl) (by kernel_rfl) (by kernel_rfl) (fun _ _ _ h => h) (by rfl) ?hya510 sN ?resta510
  case hya510 => (intro o ho W hW; simp only [List.getElem?_toArray, List.getElem?_cons_succ, List.getElem?_cons_zero, Option.some.injEq] at ho; subst ho; (try dsimp only at hW); skip; go_simp; try rfl)
  try simp only [Act.put, List.setIfInBounds_toArray, List.set_cons_zero, List.set_cons_succ]
  have hl : ∀ q ∈ ([(0, v9, .am 0 0), (1, v1, .am 1 1), (2, v10, .am 2 2), (3, v12, .re 100 3 10), (4, v14, .re 100 11 99)] : List (Nat × Value × D.Ts)), FT w14 q.2.1 q.2.2 := by
    intro q hq
    simp only [List.mem_cons, List.not_mem_nil, or_false] at hq
    rcases hq with rfl | rfl | rfl | rfl | rfl
    · exact ⟨_, _, f9_14⟩
    · exact ⟨_, _, f1_14⟩
    · exact ⟨_, _, f10_14⟩
    · exact ⟨by decide, _, _, _, _, f12_14⟩
    · exact ⟨by decide, _, _, _, _, f14⟩
  have HR : RR (w14.alloc (.cells #[.int .i64 0, v9, .int .i64 1, v1, .int .i64 2, v10, .int .i64 3, v12, .int .i64 4, v14] 217)) (some ⟨w14.heap.size, 0, none⟩) 5 (D.rls 6) := RR.new w14 _ _ rfl [(0, v9, .am 0 0), (1, v1, .am 1 1), (2, v10, .am 2 2), (3, v12, .re 100 3 10), (4, v14, .re 100 11 99)] hl _ rfl 5 rfl
  have ZR := (z14).alloc (.cells #[.int .i64 0, v9, .int .i64 1, v1, .int .i64 2, v10, .int .i64 3, v12, .int .i64 4, v14] 217)
  refine nextS 11 (by kernel_rfl) (by rfl) (fun o ho K hK => ?_)
  simp only [List.getElem?_toArray, List.getElem?_cons_succ, List.getElem?_cons_zero, Option.some.injEq] at ho; subst ho
  go_simp
  have sM : (fun W => Blk W w1.heap.size 217 #[.int .i64 1, v1]) (w14.alloc (.cells #[.int .i64 0, v9, .int .i64 1, v1, .int .i64 2, v10, .int .i64 3, v12, .int .i64 4, v14] 217)) := B_14.alloc _
  refine hK.out _ _ sM (fun _ => ?_)
  clear hK K
  try simp only [Act.put, List.setIfInBounds_toArray, List.set_cons_zero, List.set_cons_succ]
  refine takeS 12 (some 2) (.slice (some ⟨w14.heap.size, 0, none⟩) 5 5) (by kernel_rfl) (by kernel_rfl) (by kernel_rfl) (by kernel_rfl) (fun _ _ _ h => h) (by rfl) ?hya612 sM ?resta612
  case hya612 => (intro o ho W hW; simp only [List.getElem?_toArray, List.getElem?_cons_succ, List.getElem?_cons_zero, Option.some.injEq] at ho; subst ho; (try dsimp only at hW); skip; go_simp; try rfl)
  try simp only [Act.put, List.setIfInBounds_toArray, List.set_cons_zero, List.set_cons_succ]
  refine wpAnyH_done (by kernel_rfl) ?_ _
  refine NoPanic.normal ?_
  go_wp2
  go_ret
  exact ⟨_, _, _, rfl, HR, Nat.le_refl _, ZR.below⟩
end Go.Proofs.YtohhfcfnclafdaaGreatDoor
set_option linter.unusedVariables false
set_option linter.unusedSimpArgs false
set_option maxRecDepth 100000
namespace Go.Proofs.YtohhfcfnclafdaaGreatDoor
open Go.RowKit
attribute [local go_sem ↓] Go.wp_at_zero Go.wp_at_succ st_u bd_u
attribute [local go_sem] run_stu run_bdu
theorem rules_any (s : ByteArray) (w : World) : Calls Tryz.prog 122 #[.string s] w fun e w' => ∃ A n c, e = .returned (.slice A n c) ∧ RR w' A n (D.rls (D.grp (D.ns s))) ∧ n ≤ c ∧ Below w.heap.size w w' := by
  rcases tst_cases s with ⟨i, hi, ht, hg⟩ | ⟨ht, hg⟩
  · rw [hg]
    obtain rfl | rfl | rfl | rfl | rfl | rfl | rfl | rfl | rfl | rfl | rfl | rfl | rfl | rfl | rfl | rfl : i = 0 ∨ i = 1 ∨ i = 2 ∨ i = 3 ∨ i = 4 ∨ i = 5 ∨ i = 6 ∨ i = 7 ∨ i = 8 ∨ i = 9 ∨ i = 10 ∨ i = 11 ∨ i = 12 ∨ i = 13 ∨ i = 14 ∨ i = 15 := by omega
    · exact rules_l0 s w ht
    · exact rules_l1 s w ht
    · exact rules_l2 s w ht
    · exact rules_l3 s w ht
    · exact rules_l4 s w ht
    · exact rules_l5 s w ht
    · exact rules_l6 s w ht
    · exact rules_l7 s w ht
    · exact rules_l8 s w ht
    · exact rules_l9 s w ht
    · exact rules_l10 s w ht
    · exact rules_l11 s w ht
    · exact rules_l12 s w ht
    · exact rules_l13 s w ht
    · exact rules_l14 s w ht
    · exact rules_l15 s w ht
  · rw [hg]
    exact rules_none s w ht
end Go.Proofs.YtohhfcfnclafdaaGreatDoor
