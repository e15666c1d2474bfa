/-
  The law of names' texts: its walk.
-/
import Derived.Test.YtgfpdfafkimkcaaKnown
set_option linter.unusedVariables false
set_option linter.unusedSimpArgs false
namespace Go.Proofs.Ytgfpdfafkimkcaa
open Go.RowKit Go.Sort
attribute [local go_sem ↓] Go.wp_at_zero Go.wp_at_succ ld_a ld_n st_a st_n eq_a eq_n ne_a ne_n bsl_a bsl_n lv_a lv_n
attribute [local go_sem] run_ld_a run_ld_n run_st_n run_eq_a run_eq_n run_ne_a run_ne_n run_bsl1_a run_bsl1_n run_bsl2 run_lv_a run_lv_n st_z ne_z rd_new rd_old rd_drew rd_drewN rd_ext

/-- What the tail of the law asks: the text and the rightness of any name. -/
structure Tail (n : D.Nm) (t : ByteArray) (r : Bool) : Prop where
  text : ∀ w, Calls Try.prog 12 #[.agg (nc n)] w fun e w' => e = .returned (.string t) ∧ Below w.heap.size w w'
  ref : ∀ w, Calls Try.prog 14 #[.agg (nc n)] w fun e w' => e = .returned (.string t) ∧ Below w.heap.size w w'
  right : ∀ w, Calls Try.prog 13 #[.agg (nc n)] w fun e w' => e = .returned (.bool r) ∧ Below w.heap.size w w'
theorem ts_no {n : D.Nm} (h : D.right n = false) : ts n = ByteArray.empty := by rw [ts, D.txt_no h]; rfl
theorem ts_yes {n : D.Nm} (h : D.right n = true) : 1 ≤ (ts n).size := by
  rw [ts, D.sb_len]
  have := (D.isB_iff.1 (D.txt_is h)).1
  exact this
theorem not_empty {t : ByteArray} (h : 1 ≤ t.size) : (!t.toList.isEmpty) = true := by
  rw [ByteArray.toList_eq]
  obtain ⟨⟨l⟩⟩ := t
  cases l with
  | nil => simp [ByteArray.size] at h
  | cons a l => rfl
theorem tail_of (n : D.Nm) : ∃ t r, Tail n t r ∧ ((r = false ∧ t = ByteArray.empty) ∨ (r = true ∧ Kept (1 ≤ t.size))) := by
  refine ⟨ts n, D.right n, ⟨text_any n, ref_text n, right_any n⟩, ?_⟩
  cases h : D.right n
  · exact .inl ⟨rfl, ts_no h⟩
  · exact .inr ⟨rfl, ⟨ts_yes h⟩⟩
set_option maxRecDepth 100000 in
set_option maxHeartbeats 1000000 in
theorem texts_all (s : ByteArray) (n : D.Nm) (w : World) (hs : s.size ≤ 9223372036854775807) : Calls Try.prog 3 #[.string s, .agg (nc n)] w fun e w' => e = .returned (.bool true) ∧ Below w.heap.size w w' := by
  obtain ⟨m, hm1, hm2, hmin⟩ := min_run s.size 40 40 rfl
  obtain ⟨u, hu⟩ : ∃ u, s.extract 0 m = u := ⟨_, rfl⟩
  obtain ⟨t, r, T, hr⟩ := tail_of n
  have z0 := (from_self w).alloc (.cells (nc n) 23)
  have f0 := rd_new w _ 23 n rfl
  have cI := fun w => ref_is u w
  have cP := Lib.hid (ref_pad u)
  have cT := text_any (D.pad u)
  have cR := right_any (D.pad u)
  cases h : D.isB (D.ns u)
  · have cX := Lib.hid (fun w => parse_no u w h)
    rw [h] at cI
    have CI := Lib.hid cI
    obtain ⟨x, hx⟩ : ∃ x, D.zero = x := ⟨_, rfl⟩
    have hsm : sm D.zero D.zero = true := rfl
    clear cT cR cI hx h
    rcases hr with ⟨rfl, rfl⟩ | ⟨rfl, ht⟩
    all_goals
      go_enter Try.func3, Try.ntmps3
      go_wp2_with (first
        | (go_at_call 9; (with_reducible refine (cX.out _).mono ?_); rintro e w1 ⟨rfl, b1⟩; have z1 := z0.on b1; have f1 := rd_new w1 _ 23 D.zero rfl; have g1 := rd_on f0 b1; have s1 : w.heap.size < w1.heap.size := ((from_self _).on b1).lt (by simp)))
      refine wp_region_ext (by kernel_rfl) (by kernel_rfl) ?_
      repeat (go_big_quiet_step ((first
        | (go_at_call 10; exact calls_same (CI.out _)))))
      refine wpQuiet_nil ?_
      intro w5 hw5
      have b5 := ext_to hw5
      clear hw5
      have z5 := (z1.alloc (.cells (nc D.zero) 23)).on b5
      have g5 := rd_on (rd_on g1 (below_alloc_ _ (.cells (nc D.zero) 23))) b5
      clear z1 g1 f1 b5
      go_wp2_with (first
        | (go_at_call 14; (with_reducible refine (T.ref _).mono ?_); rintro e w6 ⟨rfl, b6⟩; have z6 := z5.on b6; have g6 := rd_on g5 b6)
        | (go_at_call 15; (with_reducible refine (known_any _).mono ?_); rintro e w7 ⟨rfl, b7⟩; have z7 := z6.on b7; have g7 := rd_on g6 b7)
        | (go_at_call 12; (with_reducible refine (T.text _).mono ?_); rintro e w8 ⟨rfl, b8⟩; have z8 := z7.on b8; have g8 := rd_on g7 b8)
        | (go_at_call 13; (with_reducible refine (T.right _).mono ?_); rintro e w9 ⟨rfl, b9⟩; have z9 := z8.on b9))
      go_ret
      first
        | exact ⟨rfl, z9.below⟩
        | exact ⟨bool_of (not_empty ht.out), z9.below⟩
  · have cX := Lib.hid (fun w => parse_yes u w h)
    rw [h] at cI
    have e1 : ts (D.pad u) = u := by
      have : D.txt (D.pad u) = D.ns u := D.pad_txt h (D.ns_lt u)
      rw [ts, this, D.sb_ns]
    have e2 : D.right (D.pad u) = true := D.pad_right h (D.ns_lt u)
    rw [e1] at cT
    rw [e2] at cR
    have CT := Lib.hid cT
    have CR := Lib.hid cR
    have CI := Lib.hid cI
    obtain ⟨x, hx⟩ : ∃ x, D.pad u = x := ⟨_, rfl⟩
    rw [hx] at cX cP CT CR
    have hsm : sm x x = true := by simp [sm]
    clear cT cR cI e1 e2 hx h
    rcases hr with ⟨rfl, rfl⟩ | ⟨rfl, ht⟩
    all_goals
      go_enter Try.func3, Try.ntmps3
      go_wp2_with (first
        | (go_at_call 9; (with_reducible refine (cX.out _).mono ?_); rintro e w1 ⟨rfl, b1⟩; have z1 := z0.on b1; have f1 := rd_new w1 _ 23 x rfl; have g1 := rd_on f0 b1; have s1 : w.heap.size < w1.heap.size := ((from_self _).on b1).lt (by simp)))
      refine wp_region_ext (by kernel_rfl) (by kernel_rfl) ?_
      repeat (go_big_quiet_step ((first
        | (go_at_call 10; exact calls_same (CI.out _))
        | (go_at_call 11; exact calls_ext (cP.out _))
        | (go_at_call 12; exact calls_ext (CT.out _))
        | (go_at_call 13; exact calls_ext (CR.out _)))))
      refine wpQuiet_nil ?_
      intro w5 hw5
      have b5 := ext_to hw5
      clear hw5
      have z5 := (z1.alloc (.cells (nc x) 23)).on b5
      have g5 := rd_on (rd_on g1 (below_alloc_ _ (.cells (nc x) 23))) b5
      clear z1 g1 f1 b5
      go_wp2_with (first
        | (go_at_call 14; (with_reducible refine (T.ref _).mono ?_); rintro e w6 ⟨rfl, b6⟩; have z6 := z5.on b6; have g6 := rd_on g5 b6)
        | (go_at_call 15; (with_reducible refine (known_any _).mono ?_); rintro e w7 ⟨rfl, b7⟩; have z7 := z6.on b7; have g7 := rd_on g6 b7)
        | (go_at_call 12; (with_reducible refine (T.text _).mono ?_); rintro e w8 ⟨rfl, b8⟩; have z8 := z7.on b8; have g8 := rd_on g7 b8)
        | (go_at_call 13; (with_reducible refine (T.right _).mono ?_); rintro e w9 ⟨rfl, b9⟩; have z9 := z8.on b9))
      go_ret
      first
        | exact ⟨rfl, z9.below⟩
        | exact ⟨bool_of (not_empty ht.out), z9.below⟩
end Go.Proofs.Ytgfpdfafkimkcaa
