/-
  The law of names' order: its walk.
-/
import Derived.Test.YtgfpdfafkimkcaaKnown
set_option linter.unusedVariables false
set_option linter.unusedSimpArgs false
namespace Go.Proofs.Ytgfpdfafkimkcaa
open Go.RowKit Go.Sort
attribute [local go_sem ↓] Go.wp_at_zero Go.wp_at_succ ld_a ld_n st_a st_n eq_a eq_n ne_a ne_n bsl_a bsl_n lv_a lv_n
attribute [local go_sem] run_ld_a run_ld_n run_st_n run_eq_a run_eq_n run_ne_a run_ne_n run_bsl1_a run_bsl1_n run_bsl2 run_lv_a run_lv_n st_z ne_z rd_new rd_old rd_drew rd_drewN rd_ext

theorem bytes_less : ∀ a b : List UInt8, Op.bytesLess a b = decide (D.cmp (a.map (·.toNat)) (b.map (·.toNat)) = -1)
  | [], [] => rfl
  | [], _ :: _ => rfl
  | _ :: _, [] => rfl
  | x :: a, y :: b => by
    have ih := bytes_less a b
    rw [Op.bytesLess, ih, List.map_cons, List.map_cons, D.cmp]
    by_cases h1 : x.toNat = y.toNat
    · have e : x = y := UInt8.toNat_inj.1 h1
      subst e
      simp
    · have e : ¬ x = y := fun e => h1 (by rw [e])
      rw [if_neg h1]
      by_cases h2 : x < y
      · have := UInt8.lt_iff_toNat_lt.1 h2
        rw [if_pos this]
        simp [h2]
      · have : ¬ x.toNat < y.toNat := fun h => h2 (UInt8.lt_iff_toNat_lt.2 h)
        rw [if_neg this]
        simp [h2, e]
theorem str_less {s t : ByteArray} (hs : D.isB (D.ns s) = true) (ht : D.isB (D.ns t) = true) : Op.bytesLess s.toList t.toList = D.less (D.pad s) (D.pad t) := by
  rw [ByteArray.toList_eq, ByteArray.toList_eq, bytes_less]
  unfold D.less
  rw [decide_eq_decide]
  show D.cmp (D.ns s) (D.ns t) = -1 ↔ D.cmp (D.padl (D.ns s) 12) (D.padl (D.ns t) 12) = -1
  rw [D.cmp_pad hs ht]
theorem str_same {s t : ByteArray} (hs : D.isB (D.ns s) = true) (ht : D.isB (D.ns t) = true) : (s = t) ↔ sm (D.pad s) (D.pad t) = true := by
  unfold sm
  rw [decide_eq_true_iff]
  constructor
  · rintro rfl; rfl
  · intro h
    exact D.ns_inj (D.pad_inj hs ht (D.Nm.eq_iff.1 h))
set_option maxRecDepth 100000 in
set_option maxHeartbeats 1000000 in
theorem order_all (a b : D.Nm) (s t : ByteArray) (w : World) (hs : s.size ≤ 9223372036854775807) (ht : t.size ≤ 9223372036854775807) : Calls Try.prog 4 #[.agg (nc a), .agg (nc b), .string s, .string t] w fun e w' => e = .returned (.bool true) ∧ Below w.heap.size w w' := by
  have B0 : Blk ((w.alloc (.cells (nc a) 23)).alloc (.cells (nc b) 23)) w.heap.size 23 (nc a) := (Blk.new w _ (nc a)).alloc _
  have B1 := Blk.new (w.alloc (.cells (nc a) 23)) 23 (nc b)
  simp only [World.size_alloc] at B1
  have f0 := rd_blk B0
  have f1 := rd_blk B1
  clear B0 B1
  have z0 := ((from_self w).alloc (.cells (nc a) 23)).alloc (.cells (nc b) 23)
  have cL := Lib.hid (less_any a b)
  have cS := less_any a a
  rw [D.less_irrefl] at cS
  have CS := Lib.hid cS
  clear cS
  have cR := Lib.hid (ref_less a b)
  obtain ⟨r, hr⟩ : ∃ r, D.less a b = r := ⟨_, rfl⟩
  rw [hr] at cL cR
  clear hr
  cases h1 : D.isB (D.ns s)
  · have c1 := Lib.hid (fun w => parse_no s w h1)
    cases h2 : D.isB (D.ns t)
    · have c2 := Lib.hid (fun w => parse_no t w h2)
      clear h1 h2
      go_enter Try.func4, Try.ntmps4
      go_wp2_with fail
      refine wp_region_ext (by kernel_rfl) (by kernel_rfl) ?_
      repeat (go_big_quiet_step ((first
        | (go_at_call 16; with_reducible exact calls_ext (cL.out _))
        | (go_at_call 16; with_reducible exact calls_ext (CS.out _))
        | (go_at_call 17; with_reducible exact calls_ext (cR.out _)))))
      refine wpQuiet_nil ?_
      intro w5 hw5
      have b5 := ext_to hw5
      clear hw5
      have z5 := z0.on b5
      go_wp2_with (first
        | (go_at_call 9; (with_reducible refine (c1.out _).mono ?_); rintro e w6 ⟨rfl, b6⟩; have z6 := z5.on b6)
        | (go_at_call 9; (with_reducible refine (c2.out _).mono ?_); rintro e w7 ⟨rfl, b7⟩; have z7 := (z6.alloc _).on b7)
        | (go_at_call 15; (with_reducible refine (known_any _).mono ?_); rintro e w8 ⟨rfl, b8⟩; have z8 := (z7.alloc _).on b8))
      go_ret
      exact ⟨rfl, z8.below⟩
    · have c2 := Lib.hid (fun w => parse_yes t w h2)
      clear h1 h2
      go_enter Try.func4, Try.ntmps4
      go_wp2_with fail
      refine wp_region_ext (by kernel_rfl) (by kernel_rfl) ?_
      repeat (go_big_quiet_step ((first
        | (go_at_call 16; with_reducible exact calls_ext (cL.out _))
        | (go_at_call 16; with_reducible exact calls_ext (CS.out _))
        | (go_at_call 17; with_reducible exact calls_ext (cR.out _)))))
      refine wpQuiet_nil ?_
      intro w5 hw5
      have b5 := ext_to hw5
      clear hw5
      have z5 := z0.on b5
      go_wp2_with (first
        | (go_at_call 9; (with_reducible refine (c1.out _).mono ?_); rintro e w6 ⟨rfl, b6⟩; have z6 := z5.on b6)
        | (go_at_call 9; (with_reducible refine (c2.out _).mono ?_); rintro e w7 ⟨rfl, b7⟩; have z7 := (z6.alloc _).on b7)
        | (go_at_call 15; (with_reducible refine (known_any _).mono ?_); rintro e w8 ⟨rfl, b8⟩; have z8 := (z7.alloc _).on b8))
      go_ret
      exact ⟨rfl, z8.below⟩
  · have c1 := Lib.hid (fun w => parse_yes s w h1)
    cases h2 : D.isB (D.ns t)
    · have c2 := Lib.hid (fun w => parse_no t w h2)
      clear h1 h2
      go_enter Try.func4, Try.ntmps4
      go_wp2_with fail
      refine wp_region_ext (by kernel_rfl) (by kernel_rfl) ?_
      repeat (go_big_quiet_step ((first
        | (go_at_call 16; with_reducible exact calls_ext (cL.out _))
        | (go_at_call 16; with_reducible exact calls_ext (CS.out _))
        | (go_at_call 17; with_reducible exact calls_ext (cR.out _)))))
      refine wpQuiet_nil ?_
      intro w5 hw5
      have b5 := ext_to hw5
      clear hw5
      have z5 := z0.on b5
      go_wp2_with (first
        | (go_at_call 9; (with_reducible refine (c1.out _).mono ?_); rintro e w6 ⟨rfl, b6⟩; have z6 := z5.on b6)
        | (go_at_call 9; (with_reducible refine (c2.out _).mono ?_); rintro e w7 ⟨rfl, b7⟩; have z7 := (z6.alloc _).on b7)
        | (go_at_call 15; (with_reducible refine (known_any _).mono ?_); rintro e w8 ⟨rfl, b8⟩; have z8 := (z7.alloc _).on b8))
      go_ret
      exact ⟨rfl, z8.below⟩
    · have c2 := Lib.hid (fun w => parse_yes t w h2)
      have e1 := str_less h1 h2
      have e2 := str_same h1 h2
      obtain ⟨x, hx⟩ : ∃ x, D.pad s = x := ⟨_, rfl⟩
      obtain ⟨y, hy⟩ : ∃ y, D.pad t = y := ⟨_, rfl⟩
      rw [hx] at c1 e1 e2
      rw [hy] at c2 e1 e2
      have cM := Lib.hid (less_any x y)
      obtain ⟨q, hq⟩ : ∃ q, D.less x y = q := ⟨_, rfl⟩
      rw [hq] at cM e1
      have e3 : (s.toList == t.toList) = sm x y := by
        rw [ByteArray.toList_eq, ByteArray.toList_eq, Bool.eq_iff_iff, ← e2, beq_iff_eq]
        exact ⟨fun h => ByteArray.ext (by rw [← Array.toList_inj]; exact h), fun h => by rw [h]⟩
      clear h1 h2 e2 hx hy hq
      go_enter Try.func4, Try.ntmps4
      go_wp2_with fail
      refine wp_region_ext (by kernel_rfl) (by kernel_rfl) ?_
      repeat (go_big_quiet_step ((first
        | (go_at_call 16; with_reducible exact calls_ext (cL.out _))
        | (go_at_call 16; with_reducible exact calls_ext (CS.out _))
        | (go_at_call 17; with_reducible exact calls_ext (cR.out _)))))
      refine wpQuiet_nil ?_
      intro w5 hw5
      have b5 := ext_to hw5
      clear hw5 f0 f1
      have z5 := z0.on b5
      go_wp2_with (first
        | (go_at_call 9; (with_reducible refine (c1.out _).mono ?_); rintro e w6 ⟨rfl, b6⟩; have z6 := z5.on b6; have f6 := rd_new w6 _ 23 x rfl)
        | (go_at_call 9; (with_reducible refine (c2.out _).mono ?_); rintro e w7 ⟨rfl, b7⟩; have z7 := (z6.alloc _).on b7; have f7 := rd_on f6 b7; have g7 := rd_new w7 _ 23 y rfl; have s7 : w6.heap.size < w7.heap.size := ((from_self _).on b7).lt (by simp))
        | (go_at_call 15; (with_reducible refine (known_any _).mono ?_); rintro e w8 ⟨rfl, b8⟩; have z8 := (z7.alloc _).on b8; have f8 := rd_on (rd_on f7 (below_alloc_ _ _)) b8; have g8 := rd_on g7 b8)
        | (go_at_call 16; (with_reducible refine (cM.out _).mono ?_); rintro e w9 ⟨rfl, b9⟩; have z9 := z8.on b9; have f9 := rd_on f8 b9; have g9 := rd_on g8 b9))
      go_ret
      exact ⟨rfl, z9.below⟩
end Go.Proofs.Ytgfpdfafkimkcaa
