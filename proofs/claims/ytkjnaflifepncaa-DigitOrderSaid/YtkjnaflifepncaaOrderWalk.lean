/-
  The law of the order of ordered bytes: its walk.
-/
import Derived.Test.YtkjnaflifepncaaLaw2
set_option linter.unusedVariables false
set_option linter.unusedSimpArgs false
namespace Go.Proofs.Ytkjnaflifepncaa
open Go.RowKit
variable {LL KK : List Value}

theorem From.drew {w0 w : World} (h : From w0 w) : From w0 w.drew := ⟨h.below.drew⟩
theorem at_of {L : List Value} {l : List Nat} {m j x : Nat} (h : L.take m = wds l) (hx : l[j]? = some x) : L[j]? = some (.int .u64 (x : Int)) := by
  have h1 := wds_at hx
  rw [← h, List.getElem?_take] at h1
  split at h1
  · exact h1
  · cases h1
/-- How far the law's loop has come: whether two unlike numbers were met, and whether the first one was less. -/
structure Step (l k : List Nat) (j : Nat) (us ss : Bool) : Prop where
  out : (us = false ∧ ss = false ∧ D.cmp (l.drop j) (k.drop j) = D.cmp l k) ∨ (us = true ∧ D.cmp l k = if ss then -1 else 1)
theorem step_first (l k : List Nat) : Step l k 0 false false := ⟨.inl ⟨rfl, rfl, rfl⟩⟩
theorem step_same {l k : List Nat} {j x y : Nat} {ss : Bool} (h : Step l k j false ss) (hx : l[j]? = some x) (hy : k[j]? = some y) (e : x = y) : Step l k (j + 1) false false := by
  rcases h.out with ⟨_, _, h⟩ | ⟨h, _⟩
  · exact ⟨.inl ⟨rfl, rfl, by rw [← h, drop_at hx, drop_at hy, D.cmp, if_pos e]⟩⟩
  · cases h
theorem step_unlike {l k : List Nat} {j x y : Nat} {ss : Bool} (h : Step l k j false ss) (hx : l[j]? = some x) (hy : k[j]? = some y) (e : x ≠ y) : Step l k (j + 1) true (decide (x < y)) := by
  rcases h.out with ⟨_, _, h⟩ | ⟨h, _⟩
  · refine ⟨.inr ⟨rfl, ?_⟩⟩
    rw [← h, drop_at hx, drop_at hy, D.cmp, if_neg e]
    by_cases h2 : x < y <;> simp [h2]
  · cases h
theorem step_end {l k : List Nat} {j : Nat} {ss : Bool} (h : Step l k j false ss) (hl : l.length ≤ j) (hk : k.length ≤ j) : ss = false ∧ D.cmp l k = 0 := by
  rcases h.out with ⟨_, h2, h⟩ | ⟨h, _⟩
  · exact ⟨h2, by rw [← h, List.drop_of_length_le hl, List.drop_of_length_le hk]; rfl⟩
  · cases h
theorem step_true {l k : List Nat} {j : Nat} {ss : Bool} (h : Step l k j true ss) : D.cmp l k = if ss then -1 else 1 := by
  rcases h.out with ⟨h, _⟩ | ⟨_, h⟩
  · cases h
  · exact h

set_option maxRecDepth 20000 in
set_option maxHeartbeats 2000000 in
theorem order_lt1 (a b na nb : Nat) (A A1 B B1 : Option Addr) (n c n2 d m p1 p2 : Nat) (l' k' : List Nat) (w : World) (ha : a < 18446744073709551616) (hb : b < 18446744073709551616) (hab : a < b) (hnab : na < nb)
    (hna : Kept ((D.ordd a).length = na)) (hnb : Kept ((D.ordd b).length = nb)) (hp1 : Kept ((D.rowO l').length = p1)) (hp2 : Kept ((D.rowO k').length = p2))
    (hl : Row w A n LL) (hk : Row w B n2 KK) (hL : Row w A1 m (wds l')) (hK : Row w B1 m (wds k')) (HLL : Kept (LL.take m = wds l')) (HKK : Kept (KK.take m = wds k'))
    (hl64 : Kept (∀ x ∈ l', x < 18446744073709551616)) (hk64 : Kept (∀ x ∈ k', x < 18446744073709551616)) (hm : m ≤ 10) (hmn : m ≤ n) (hmn2 : m ≤ n2) (hnc : n ≤ c) (hnd : n2 ≤ d) (hc : c ≤ maxLen) (hd : d ≤ maxLen)
    (hmin : ∀ ts t W, (Builtin.min_ ts t #[.int .i64 (n : Int), .int .i64 (n2 : Int), .int .i64 10]).run Try.prog W = .ok (.int .i64 (m : Int)) W)
    (hcut : ∀ W, (Instr.slice 22 (.slice A n c) none (some (.int .i64 (m : Int))) none).run Try.prog W = .ok (.slice A1 m c) W)
    (hcut2 : ∀ W, (Instr.slice 22 (.slice B n2 d) none (some (.int .i64 (m : Int))) none).run Try.prog W = .ok (.slice B1 m d) W) :
    Calls Try.prog 6 #[.int .u64 a, .int .u64 b, .slice A n c, .slice B n2 d] w fun e w' => e = .returned (.bool true) ∧ Below w.heap.size w w' := by
  have hz := from_self w
  unfold maxLen at hc hd
  have hl10 := hL.len
  have hk10 := hK.len
  rw [wds_len] at hl10 hk10
  have HLK := Lib.hid (show l'.length = k'.length by omega)
  have HLm := Lib.hid hl10
  clear hl10 hk10
  have hne : ((a : Int) == (b : Int)) = false := by rw [beq_eq_false_iff_ne]; omega
  have cC := Lib.hid (fun A B c d W h1 h2 => compare_any A B na c nb d (D.ordd a) (D.ordd b) (-1) W h1 h2 ⟨D.ordd_lt ha⟩ ⟨D.ordd_lt hb⟩ ⟨by rw [D.cmp_ord]; rw [if_pos (by omega)]⟩)
  have cE := Lib.hid (fun A B c d W h1 h2 => same_any A B na c na d (D.ordd a) ((D.ordd b).take na) false W h1 h2 (by have := D.ordd_len ha; rw [hna.out] at this; omega) (by have := D.ordd_len ha; rw [hna.out] at this; omega) ⟨by rw [← hna.out]; exact D.not_begin (by rw [hna.out, hnb.out]; exact hnab)⟩)
  have cOa := Lib.hid (fun A c W h => ordered_any A 1 c [a] W h ⟨by simpa using ha⟩ (by omega))
  have cOb := Lib.hid (fun A c W h => ordered_any A 1 c [b] W h ⟨by simpa using hb⟩ (by omega))
  rw [show D.rowO [a] = D.ordd a by simp [D.rowO]] at cOa
  rw [show D.rowO [b] = D.ordd b by simp [D.rowO]] at cOb
  have HR := D.cmp_rows l' k' HLK.out
  have HL2 : Kept (∀ x ∈ D.rowO l', x < 256) := ⟨D.rowO_lt hl64.out⟩
  have HK2 : Kept (∀ x ∈ D.rowO k', x < 256) := ⟨D.rowO_lt hk64.out⟩
  have cOl := Lib.hid (fun W h => ordered_any A1 m c l' W h hl64 (by omega))
  have cOk := Lib.hid (fun W h => ordered_any B1 m d k' W h hk64 (by omega))
  have HRH := Lib.hid HR
  clear HR
  go_enter Try.func6, Try.ntmps6
  go_wp2_with (first
    | (go_at_call 14; (with_reducible refine (on_made (n := na) hna (hz.alloc _) (cOa.out _ _ _ ?_)).mono ?_); (exact lit_row _ _ _ _ _ _ (by rfl) (by rfl) (by simp)); rintro e w1 ⟨X, cx, rfl, hx1, hx2, rx, hz1, hb1⟩)
    | (go_at_call 14; (with_reducible refine (on_made (n := nb) hnb (hz1.alloc _) (cOb.out _ _ _ ?_)).mono ?_); (exact lit_row _ _ _ _ _ _ (by rfl) (by rfl) (by simp)); rintro e w2 ⟨Y, cy, rfl, hy1, hy2, ry, hz2, hb2⟩; have rx2 := (rx.alloc _).on hb2; obtain ⟨Y1, hcutY, hRY⟩ := upto_run_b Y nb cy na na rfl (by omega); have ry1 := hRY _ _ ry (by omega); rw [bys_take] at ry1; clear hRY)
    | (go_at_call 21; (with_reducible refine (cC.out _ _ _ _ _ rx2 ry).mono ?_); rintro e w3 ⟨rfl, rfl⟩)
    | (go_at_call 13; (with_reducible refine (cE.out _ _ _ _ _ rx2 ry1).mono ?_); rintro e w4 ⟨rfl, q4, rfl⟩))
  have hzA := hz2.drewN q4
  clear hz hz1 hz2 hb1 hb2 rx rx2 ry cOa cOb cC hx1 hx2 hy1 hy2
  go_loopw [13, 14, 15] (fun s u i wr => ∃ (j : Nat) (us ss : Bool), j ≤ m ∧ i = .int .i64 j ∧ u = .bool us ∧ s = .bool ss ∧ From w wr ∧ Step l' k' j us ss) (fun _ _ i _ => m - (intOf i).toNat)
  case atStart => exact ⟨0, false, false, Nat.zero_le _, rfl, rfl, rfl, hzA, step_first _ _⟩
  case round =>
    clear hzA
    obtain ⟨j, us, ss, hj, rfl, rfl, rfl, hzr, HW⟩ := hrel
    cases us with
    | true =>
      have hr := step_true HW
      cases ss with
      | true =>
        have hr : D.cmp l' k' = -1 := hr
        by_cases hlt : j < m
        · have c6 := Lib.hid (fun A B c d n1 n2 W h1 h2 => compare_any A B n1 c n2 d (D.rowO l') (D.rowO k') (-1) W h1 h2 HL2 HK2 ⟨HRH.out.trans hr⟩)
          clear hr HRH HW hl hk
          go_wp2_with fail
          go_region_held3 (fun _ => True) (trivial) (first
            | (go_at_call 14; (with_reducible refine (on_made (n := p1) hp1 hzr.drew (cOl.out _ (hL.since hzr.drew))).mono ?_); rintro e w5 ⟨A5, c5, rfl, h51, h52, r5, hz5, hb5⟩)
            | (go_at_call 14; (with_reducible refine (on_made (n := p2) hp2 hz5 (cOk.out _ (hK.since hz5))).mono ?_); rintro e w6 ⟨A6, c6', rfl, h61, h62, r6, hz6, hb6⟩)
            | (go_at_call 21; (with_reducible refine (c6.out _ _ _ _ _ _ _ (r5.on hb6) r6).mono ?_); rintro e w7 ⟨rfl, rfl⟩))
          all_goals
            go_wp2_with (go_at_call 12; (with_reducible refine (on hz6 (known_any _)).mono ?_); rintro e w8 ⟨rfl, hz8⟩)
            go_ret
            exact ⟨rfl, hz8.below⟩
        · have c6 := Lib.hid (fun A B c d n1 n2 W h1 h2 => compare_any A B n1 c n2 d (D.rowO l') (D.rowO k') (-1) W h1 h2 HL2 HK2 ⟨HRH.out.trans hr⟩)
          clear hr HRH HW hl hk
          go_wp2_with fail
          go_region_held3 (fun _ => True) (trivial) (first
            | (go_at_call 14; (with_reducible refine (on_made (n := p1) hp1 hzr.drew (cOl.out _ (hL.since hzr.drew))).mono ?_); rintro e w5 ⟨A5, c5, rfl, h51, h52, r5, hz5, hb5⟩)
            | (go_at_call 14; (with_reducible refine (on_made (n := p2) hp2 hz5 (cOk.out _ (hK.since hz5))).mono ?_); rintro e w6 ⟨A6, c6', rfl, h61, h62, r6, hz6, hb6⟩)
            | (go_at_call 21; (with_reducible refine (c6.out _ _ _ _ _ _ _ (r5.on hb6) r6).mono ?_); rintro e w7 ⟨rfl, rfl⟩))
          all_goals
            go_wp2_with (go_at_call 12; (with_reducible refine (on hz6 (known_any _)).mono ?_); rintro e w8 ⟨rfl, hz8⟩)
            go_ret
            exact ⟨rfl, hz8.below⟩
      | false =>
        have hr : D.cmp l' k' = 1 := hr
        by_cases hlt : j < m
        · have c6 := Lib.hid (fun A B c d n1 n2 W h1 h2 => compare_any A B n1 c n2 d (D.rowO l') (D.rowO k') (1) W h1 h2 HL2 HK2 ⟨HRH.out.trans hr⟩)
          clear hr HRH HW hl hk
          go_wp2_with fail
          go_region_held3 (fun _ => True) (trivial) (first
            | (go_at_call 14; (with_reducible refine (on_made (n := p1) hp1 hzr.drew (cOl.out _ (hL.since hzr.drew))).mono ?_); rintro e w5 ⟨A5, c5, rfl, h51, h52, r5, hz5, hb5⟩)
            | (go_at_call 14; (with_reducible refine (on_made (n := p2) hp2 hz5 (cOk.out _ (hK.since hz5))).mono ?_); rintro e w6 ⟨A6, c6', rfl, h61, h62, r6, hz6, hb6⟩)
            | (go_at_call 21; (with_reducible refine (c6.out _ _ _ _ _ _ _ (r5.on hb6) r6).mono ?_); rintro e w7 ⟨rfl, rfl⟩))
          all_goals
            go_wp2_with (go_at_call 12; (with_reducible refine (on hz6 (known_any _)).mono ?_); rintro e w8 ⟨rfl, hz8⟩)
            go_ret
            exact ⟨rfl, hz8.below⟩
        · have c6 := Lib.hid (fun A B c d n1 n2 W h1 h2 => compare_any A B n1 c n2 d (D.rowO l') (D.rowO k') (1) W h1 h2 HL2 HK2 ⟨HRH.out.trans hr⟩)
          clear hr HRH HW hl hk
          go_wp2_with fail
          go_region_held3 (fun _ => True) (trivial) (first
            | (go_at_call 14; (with_reducible refine (on_made (n := p1) hp1 hzr.drew (cOl.out _ (hL.since hzr.drew))).mono ?_); rintro e w5 ⟨A5, c5, rfl, h51, h52, r5, hz5, hb5⟩)
            | (go_at_call 14; (with_reducible refine (on_made (n := p2) hp2 hz5 (cOk.out _ (hK.since hz5))).mono ?_); rintro e w6 ⟨A6, c6', rfl, h61, h62, r6, hz6, hb6⟩)
            | (go_at_call 21; (with_reducible refine (c6.out _ _ _ _ _ _ _ (r5.on hb6) r6).mono ?_); rintro e w7 ⟨rfl, rfl⟩))
          all_goals
            go_wp2_with (go_at_call 12; (with_reducible refine (on hz6 (known_any _)).mono ?_); rintro e w8 ⟨rfl, hz8⟩)
            go_ret
            exact ⟨rfl, hz8.below⟩
    | false =>
      by_cases hlt : j < m
      · obtain ⟨x, hx, hxl⟩ := at_lt (l := l') (i := j) (by rw [HLm.out]; exact hlt)
        obtain ⟨y, hy, hyl⟩ := at_lt (l := k') (i := j) (by rw [← HLK.out, HLm.out]; exact hlt)
        obtain ⟨ad, rfl, cx1⟩ := (hl.since hzr).cell (at_of HLL.out hx)
        obtain ⟨ad2, rfl, cy1⟩ := (hk.since hzr).cell (at_of HKK.out hy)
        have hx64 := hl64.out x hxl
        have hy64 := hk64.out y hyl
        have i1 : (0 : Int) ≤ (j : Int) := by omega
        have i2 : (j : Int) < (n : Int) := by omega
        have i3 : (j : Int) < (n2 : Int) := by omega
        by_cases e : x = y
        · have HN := step_same HW hx hy e
          subst e
          clear HW hx hy hxl hyl hl hk
          go_wp2_with fail
          go_quiet (fail)
          go_wp2_with fail
          go_quiet (fail)
          go_wp2
          go_roundw
          case rel => exact ⟨j + 1, false, false, by omega, by go_num, by simp, by simp, hzr.drewN _, HN⟩
          case measure => simp [intOf]; omega
        · have HN := step_unlike HW hx hy e
          have hne : (((x : Int) == (y : Int)) = false) := by rw [beq_eq_false_iff_ne]; omega
          have hne2 : (((x : Int) != (y : Int)) = true) := by rw [bne_iff_ne]; omega
          clear HW hx hy hxl hyl hl hk
          go_wp2_with fail
          go_quiet (fail)
          go_wp2_with fail
          go_quiet (fail)
          go_wp2
          go_roundw
          case rel => exact ⟨j + 1, true, decide (x < y), by omega, by go_num, rfl, by simp, hzr.drewN _, HN⟩
          case measure => simp [intOf]; omega
      · have hr := step_end HW (by rw [HLm.out]; omega) (by rw [← HLK.out, HLm.out]; omega)
        obtain ⟨rfl, hr⟩ := hr
        have c6 := Lib.hid (fun A B c d n1 n2 W h1 h2 => compare_any A B n1 c n2 d (D.rowO l') (D.rowO k') (0) W h1 h2 HL2 HK2 ⟨HRH.out.trans hr⟩)
        clear hr HRH HW hl hk
        go_wp2_with fail
        go_region_held3 (fun _ => True) (trivial) (first
          | (go_at_call 14; (with_reducible refine (on_made (n := p1) hp1 hzr.drew (cOl.out _ (hL.since hzr.drew))).mono ?_); rintro e w5 ⟨A5, c5, rfl, h51, h52, r5, hz5, hb5⟩)
          | (go_at_call 14; (with_reducible refine (on_made (n := p2) hp2 hz5 (cOk.out _ (hK.since hz5))).mono ?_); rintro e w6 ⟨A6, c6', rfl, h61, h62, r6, hz6, hb6⟩)
          | (go_at_call 21; (with_reducible refine (c6.out _ _ _ _ _ _ _ (r5.on hb6) r6).mono ?_); rintro e w7 ⟨rfl, rfl⟩))
        all_goals
          go_wp2_with (go_at_call 12; (with_reducible refine (on hz6 (known_any _)).mono ?_); rintro e w8 ⟨rfl, hz8⟩)
          go_ret
          exact ⟨rfl, hz8.below⟩

set_option maxRecDepth 20000 in
set_option maxHeartbeats 2000000 in
theorem order_lt2 (a b na nb : Nat) (A A1 B B1 : Option Addr) (n c n2 d m p1 p2 : Nat) (l' k' : List Nat) (w : World) (ha : a < 18446744073709551616) (hb : b < 18446744073709551616) (hab : a < b) (hnab : ¬ na < nb)
    (hna : Kept ((D.ordd a).length = na)) (hnb : Kept ((D.ordd b).length = nb)) (hp1 : Kept ((D.rowO l').length = p1)) (hp2 : Kept ((D.rowO k').length = p2))
    (hl : Row w A n LL) (hk : Row w B n2 KK) (hL : Row w A1 m (wds l')) (hK : Row w B1 m (wds k')) (HLL : Kept (LL.take m = wds l')) (HKK : Kept (KK.take m = wds k'))
    (hl64 : Kept (∀ x ∈ l', x < 18446744073709551616)) (hk64 : Kept (∀ x ∈ k', x < 18446744073709551616)) (hm : m ≤ 10) (hmn : m ≤ n) (hmn2 : m ≤ n2) (hnc : n ≤ c) (hnd : n2 ≤ d) (hc : c ≤ maxLen) (hd : d ≤ maxLen)
    (hmin : ∀ ts t W, (Builtin.min_ ts t #[.int .i64 (n : Int), .int .i64 (n2 : Int), .int .i64 10]).run Try.prog W = .ok (.int .i64 (m : Int)) W)
    (hcut : ∀ W, (Instr.slice 22 (.slice A n c) none (some (.int .i64 (m : Int))) none).run Try.prog W = .ok (.slice A1 m c) W)
    (hcut2 : ∀ W, (Instr.slice 22 (.slice B n2 d) none (some (.int .i64 (m : Int))) none).run Try.prog W = .ok (.slice B1 m d) W) :
    Calls Try.prog 6 #[.int .u64 a, .int .u64 b, .slice A n c, .slice B n2 d] w fun e w' => e = .returned (.bool true) ∧ Below w.heap.size w w' := by
  have hz := from_self w
  unfold maxLen at hc hd
  have hl10 := hL.len
  have hk10 := hK.len
  rw [wds_len] at hl10 hk10
  have HLK := Lib.hid (show l'.length = k'.length by omega)
  have HLm := Lib.hid hl10
  clear hl10 hk10
  have hne : ((a : Int) == (b : Int)) = false := by rw [beq_eq_false_iff_ne]; omega
  have cC := Lib.hid (fun A B c d W h1 h2 => compare_any A B na c nb d (D.ordd a) (D.ordd b) (-1) W h1 h2 ⟨D.ordd_lt ha⟩ ⟨D.ordd_lt hb⟩ ⟨by rw [D.cmp_ord]; rw [if_pos (by omega)]⟩)
  have cOa := Lib.hid (fun A c W h => ordered_any A 1 c [a] W h ⟨by simpa using ha⟩ (by omega))
  have cOb := Lib.hid (fun A c W h => ordered_any A 1 c [b] W h ⟨by simpa using hb⟩ (by omega))
  rw [show D.rowO [a] = D.ordd a by simp [D.rowO]] at cOa
  rw [show D.rowO [b] = D.ordd b by simp [D.rowO]] at cOb
  have HR := D.cmp_rows l' k' HLK.out
  have HL2 : Kept (∀ x ∈ D.rowO l', x < 256) := ⟨D.rowO_lt hl64.out⟩
  have HK2 : Kept (∀ x ∈ D.rowO k', x < 256) := ⟨D.rowO_lt hk64.out⟩
  have cOl := Lib.hid (fun W h => ordered_any A1 m c l' W h hl64 (by omega))
  have cOk := Lib.hid (fun W h => ordered_any B1 m d k' W h hk64 (by omega))
  have HRH := Lib.hid HR
  clear HR
  go_enter Try.func6, Try.ntmps6
  go_wp2_with (first
    | (go_at_call 14; (with_reducible refine (on_made (n := na) hna (hz.alloc _) (cOa.out _ _ _ ?_)).mono ?_); (exact lit_row _ _ _ _ _ _ (by rfl) (by rfl) (by simp)); rintro e w1 ⟨X, cx, rfl, hx1, hx2, rx, hz1, hb1⟩)
    | (go_at_call 14; (with_reducible refine (on_made (n := nb) hnb (hz1.alloc _) (cOb.out _ _ _ ?_)).mono ?_); (exact lit_row _ _ _ _ _ _ (by rfl) (by rfl) (by simp)); rintro e w2 ⟨Y, cy, rfl, hy1, hy2, ry, hz2, hb2⟩; have rx2 := (rx.alloc _).on hb2)
    | (go_at_call 21; (with_reducible refine (cC.out _ _ _ _ _ rx2 ry).mono ?_); rintro e w3 ⟨rfl, rfl⟩))
  have hzA := hz2
  clear hz hz1 hz2 hb1 hb2 rx rx2 ry cOa cOb cC hx1 hx2 hy1 hy2
  go_loopw [13, 14, 15] (fun s u i wr => ∃ (j : Nat) (us ss : Bool), j ≤ m ∧ i = .int .i64 j ∧ u = .bool us ∧ s = .bool ss ∧ From w wr ∧ Step l' k' j us ss) (fun _ _ i _ => m - (intOf i).toNat)
  case atStart => exact ⟨0, false, false, Nat.zero_le _, rfl, rfl, rfl, hzA, step_first _ _⟩
  case round =>
    clear hzA
    obtain ⟨j, us, ss, hj, rfl, rfl, rfl, hzr, HW⟩ := hrel
    cases us with
    | true =>
      have hr := step_true HW
      cases ss with
      | true =>
        have hr : D.cmp l' k' = -1 := hr
        by_cases hlt : j < m
        · have c6 := Lib.hid (fun A B c d n1 n2 W h1 h2 => compare_any A B n1 c n2 d (D.rowO l') (D.rowO k') (-1) W h1 h2 HL2 HK2 ⟨HRH.out.trans hr⟩)
          clear hr HRH HW hl hk
          go_wp2_with fail
          go_region_held3 (fun _ => True) (trivial) (first
            | (go_at_call 14; (with_reducible refine (on_made (n := p1) hp1 hzr.drew (cOl.out _ (hL.since hzr.drew))).mono ?_); rintro e w5 ⟨A5, c5, rfl, h51, h52, r5, hz5, hb5⟩)
            | (go_at_call 14; (with_reducible refine (on_made (n := p2) hp2 hz5 (cOk.out _ (hK.since hz5))).mono ?_); rintro e w6 ⟨A6, c6', rfl, h61, h62, r6, hz6, hb6⟩)
            | (go_at_call 21; (with_reducible refine (c6.out _ _ _ _ _ _ _ (r5.on hb6) r6).mono ?_); rintro e w7 ⟨rfl, rfl⟩))
          all_goals
            go_wp2_with (go_at_call 12; (with_reducible refine (on hz6 (known_any _)).mono ?_); rintro e w8 ⟨rfl, hz8⟩)
            go_ret
            exact ⟨rfl, hz8.below⟩
        · have c6 := Lib.hid (fun A B c d n1 n2 W h1 h2 => compare_any A B n1 c n2 d (D.rowO l') (D.rowO k') (-1) W h1 h2 HL2 HK2 ⟨HRH.out.trans hr⟩)
          clear hr HRH HW hl hk
          go_wp2_with fail
          go_region_held3 (fun _ => True) (trivial) (first
            | (go_at_call 14; (with_reducible refine (on_made (n := p1) hp1 hzr.drew (cOl.out _ (hL.since hzr.drew))).mono ?_); rintro e w5 ⟨A5, c5, rfl, h51, h52, r5, hz5, hb5⟩)
            | (go_at_call 14; (with_reducible refine (on_made (n := p2) hp2 hz5 (cOk.out _ (hK.since hz5))).mono ?_); rintro e w6 ⟨A6, c6', rfl, h61, h62, r6, hz6, hb6⟩)
            | (go_at_call 21; (with_reducible refine (c6.out _ _ _ _ _ _ _ (r5.on hb6) r6).mono ?_); rintro e w7 ⟨rfl, rfl⟩))
          all_goals
            go_wp2_with (go_at_call 12; (with_reducible refine (on hz6 (known_any _)).mono ?_); rintro e w8 ⟨rfl, hz8⟩)
            go_ret
            exact ⟨rfl, hz8.below⟩
      | false =>
        have hr : D.cmp l' k' = 1 := hr
        by_cases hlt : j < m
        · have c6 := Lib.hid (fun A B c d n1 n2 W h1 h2 => compare_any A B n1 c n2 d (D.rowO l') (D.rowO k') (1) W h1 h2 HL2 HK2 ⟨HRH.out.trans hr⟩)
          clear hr HRH HW hl hk
          go_wp2_with fail
          go_region_held3 (fun _ => True) (trivial) (first
            | (go_at_call 14; (with_reducible refine (on_made (n := p1) hp1 hzr.drew (cOl.out _ (hL.since hzr.drew))).mono ?_); rintro e w5 ⟨A5, c5, rfl, h51, h52, r5, hz5, hb5⟩)
            | (go_at_call 14; (with_reducible refine (on_made (n := p2) hp2 hz5 (cOk.out _ (hK.since hz5))).mono ?_); rintro e w6 ⟨A6, c6', rfl, h61, h62, r6, hz6, hb6⟩)
            | (go_at_call 21; (with_reducible refine (c6.out _ _ _ _ _ _ _ (r5.on hb6) r6).mono ?_); rintro e w7 ⟨rfl, rfl⟩))
          all_goals
            go_wp2_with (go_at_call 12; (with_reducible refine (on hz6 (known_any _)).mono ?_); rintro e w8 ⟨rfl, hz8⟩)
            go_ret
            exact ⟨rfl, hz8.below⟩
        · have c6 := Lib.hid (fun A B c d n1 n2 W h1 h2 => compare_any A B n1 c n2 d (D.rowO l') (D.rowO k') (1) W h1 h2 HL2 HK2 ⟨HRH.out.trans hr⟩)
          clear hr HRH HW hl hk
          go_wp2_with fail
          go_region_held3 (fun _ => True) (trivial) (first
            | (go_at_call 14; (with_reducible refine (on_made (n := p1) hp1 hzr.drew (cOl.out _ (hL.since hzr.drew))).mono ?_); rintro e w5 ⟨A5, c5, rfl, h51, h52, r5, hz5, hb5⟩)
            | (go_at_call 14; (with_reducible refine (on_made (n := p2) hp2 hz5 (cOk.out _ (hK.since hz5))).mono ?_); rintro e w6 ⟨A6, c6', rfl, h61, h62, r6, hz6, hb6⟩)
            | (go_at_call 21; (with_reducible refine (c6.out _ _ _ _ _ _ _ (r5.on hb6) r6).mono ?_); rintro e w7 ⟨rfl, rfl⟩))
          all_goals
            go_wp2_with (go_at_call 12; (with_reducible refine (on hz6 (known_any _)).mono ?_); rintro e w8 ⟨rfl, hz8⟩)
            go_ret
            exact ⟨rfl, hz8.below⟩
    | false =>
      by_cases hlt : j < m
      · obtain ⟨x, hx, hxl⟩ := at_lt (l := l') (i := j) (by rw [HLm.out]; exact hlt)
        obtain ⟨y, hy, hyl⟩ := at_lt (l := k') (i := j) (by rw [← HLK.out, HLm.out]; exact hlt)
        obtain ⟨ad, rfl, cx1⟩ := (hl.since hzr).cell (at_of HLL.out hx)
        obtain ⟨ad2, rfl, cy1⟩ := (hk.since hzr).cell (at_of HKK.out hy)
        have hx64 := hl64.out x hxl
        have hy64 := hk64.out y hyl
        have i1 : (0 : Int) ≤ (j : Int) := by omega
        have i2 : (j : Int) < (n : Int) := by omega
        have i3 : (j : Int) < (n2 : Int) := by omega
        by_cases e : x = y
        · have HN := step_same HW hx hy e
          subst e
          clear HW hx hy hxl hyl hl hk
          go_wp2_with fail
          go_quiet (fail)
          go_wp2_with fail
          go_quiet (fail)
          go_wp2
          go_roundw
          case rel => exact ⟨j + 1, false, false, by omega, by go_num, by simp, by simp, hzr.drewN _, HN⟩
          case measure => simp [intOf]; omega
        · have HN := step_unlike HW hx hy e
          have hne : (((x : Int) == (y : Int)) = false) := by rw [beq_eq_false_iff_ne]; omega
          have hne2 : (((x : Int) != (y : Int)) = true) := by rw [bne_iff_ne]; omega
          clear HW hx hy hxl hyl hl hk
          go_wp2_with fail
          go_quiet (fail)
          go_wp2_with fail
          go_quiet (fail)
          go_wp2
          go_roundw
          case rel => exact ⟨j + 1, true, decide (x < y), by omega, by go_num, rfl, by simp, hzr.drewN _, HN⟩
          case measure => simp [intOf]; omega
      · have hr := step_end HW (by rw [HLm.out]; omega) (by rw [← HLK.out, HLm.out]; omega)
        obtain ⟨rfl, hr⟩ := hr
        have c6 := Lib.hid (fun A B c d n1 n2 W h1 h2 => compare_any A B n1 c n2 d (D.rowO l') (D.rowO k') (0) W h1 h2 HL2 HK2 ⟨HRH.out.trans hr⟩)
        clear hr HRH HW hl hk
        go_wp2_with fail
        go_region_held3 (fun _ => True) (trivial) (first
          | (go_at_call 14; (with_reducible refine (on_made (n := p1) hp1 hzr.drew (cOl.out _ (hL.since hzr.drew))).mono ?_); rintro e w5 ⟨A5, c5, rfl, h51, h52, r5, hz5, hb5⟩)
          | (go_at_call 14; (with_reducible refine (on_made (n := p2) hp2 hz5 (cOk.out _ (hK.since hz5))).mono ?_); rintro e w6 ⟨A6, c6', rfl, h61, h62, r6, hz6, hb6⟩)
          | (go_at_call 21; (with_reducible refine (c6.out _ _ _ _ _ _ _ (r5.on hb6) r6).mono ?_); rintro e w7 ⟨rfl, rfl⟩))
        all_goals
          go_wp2_with (go_at_call 12; (with_reducible refine (on hz6 (known_any _)).mono ?_); rintro e w8 ⟨rfl, hz8⟩)
          go_ret
          exact ⟨rfl, hz8.below⟩

set_option maxRecDepth 20000 in
set_option maxHeartbeats 2000000 in
theorem order_gt (a b na nb : Nat) (A A1 B B1 : Option Addr) (n c n2 d m p1 p2 : Nat) (l' k' : List Nat) (w : World) (ha : a < 18446744073709551616) (hb : b < 18446744073709551616) (hab : b < a) (hnab : ¬ na < nb)
    (hna : Kept ((D.ordd a).length = na)) (hnb : Kept ((D.ordd b).length = nb)) (hp1 : Kept ((D.rowO l').length = p1)) (hp2 : Kept ((D.rowO k').length = p2))
    (hl : Row w A n LL) (hk : Row w B n2 KK) (hL : Row w A1 m (wds l')) (hK : Row w B1 m (wds k')) (HLL : Kept (LL.take m = wds l')) (HKK : Kept (KK.take m = wds k'))
    (hl64 : Kept (∀ x ∈ l', x < 18446744073709551616)) (hk64 : Kept (∀ x ∈ k', x < 18446744073709551616)) (hm : m ≤ 10) (hmn : m ≤ n) (hmn2 : m ≤ n2) (hnc : n ≤ c) (hnd : n2 ≤ d) (hc : c ≤ maxLen) (hd : d ≤ maxLen)
    (hmin : ∀ ts t W, (Builtin.min_ ts t #[.int .i64 (n : Int), .int .i64 (n2 : Int), .int .i64 10]).run Try.prog W = .ok (.int .i64 (m : Int)) W)
    (hcut : ∀ W, (Instr.slice 22 (.slice A n c) none (some (.int .i64 (m : Int))) none).run Try.prog W = .ok (.slice A1 m c) W)
    (hcut2 : ∀ W, (Instr.slice 22 (.slice B n2 d) none (some (.int .i64 (m : Int))) none).run Try.prog W = .ok (.slice B1 m d) W) :
    Calls Try.prog 6 #[.int .u64 a, .int .u64 b, .slice A n c, .slice B n2 d] w fun e w' => e = .returned (.bool true) ∧ Below w.heap.size w w' := by
  have hz := from_self w
  unfold maxLen at hc hd
  have hl10 := hL.len
  have hk10 := hK.len
  rw [wds_len] at hl10 hk10
  have HLK := Lib.hid (show l'.length = k'.length by omega)
  have HLm := Lib.hid hl10
  clear hl10 hk10
  have hne : ((a : Int) == (b : Int)) = false := by rw [beq_eq_false_iff_ne]; omega
  have cC := Lib.hid (fun A B c d W h1 h2 => compare_any A B na c nb d (D.ordd a) (D.ordd b) (1) W h1 h2 ⟨D.ordd_lt ha⟩ ⟨D.ordd_lt hb⟩ ⟨by rw [D.cmp_ord]; rw [if_neg (by omega), if_neg (by omega)]⟩)
  have cOa := Lib.hid (fun A c W h => ordered_any A 1 c [a] W h ⟨by simpa using ha⟩ (by omega))
  have cOb := Lib.hid (fun A c W h => ordered_any A 1 c [b] W h ⟨by simpa using hb⟩ (by omega))
  rw [show D.rowO [a] = D.ordd a by simp [D.rowO]] at cOa
  rw [show D.rowO [b] = D.ordd b by simp [D.rowO]] at cOb
  have HR := D.cmp_rows l' k' HLK.out
  have HL2 : Kept (∀ x ∈ D.rowO l', x < 256) := ⟨D.rowO_lt hl64.out⟩
  have HK2 : Kept (∀ x ∈ D.rowO k', x < 256) := ⟨D.rowO_lt hk64.out⟩
  have cOl := Lib.hid (fun W h => ordered_any A1 m c l' W h hl64 (by omega))
  have cOk := Lib.hid (fun W h => ordered_any B1 m d k' W h hk64 (by omega))
  have HRH := Lib.hid HR
  clear HR
  go_enter Try.func6, Try.ntmps6
  go_wp2_with (first
    | (go_at_call 14; (with_reducible refine (on_made (n := na) hna (hz.alloc _) (cOa.out _ _ _ ?_)).mono ?_); (exact lit_row _ _ _ _ _ _ (by rfl) (by rfl) (by simp)); rintro e w1 ⟨X, cx, rfl, hx1, hx2, rx, hz1, hb1⟩)
    | (go_at_call 14; (with_reducible refine (on_made (n := nb) hnb (hz1.alloc _) (cOb.out _ _ _ ?_)).mono ?_); (exact lit_row _ _ _ _ _ _ (by rfl) (by rfl) (by simp)); rintro e w2 ⟨Y, cy, rfl, hy1, hy2, ry, hz2, hb2⟩; have rx2 := (rx.alloc _).on hb2)
    | (go_at_call 21; (with_reducible refine (cC.out _ _ _ _ _ rx2 ry).mono ?_); rintro e w3 ⟨rfl, rfl⟩))
  have hzA := hz2
  clear hz hz1 hz2 hb1 hb2 rx rx2 ry cOa cOb cC hx1 hx2 hy1 hy2
  go_loopw [13, 14, 15] (fun s u i wr => ∃ (j : Nat) (us ss : Bool), j ≤ m ∧ i = .int .i64 j ∧ u = .bool us ∧ s = .bool ss ∧ From w wr ∧ Step l' k' j us ss) (fun _ _ i _ => m - (intOf i).toNat)
  case atStart => exact ⟨0, false, false, Nat.zero_le _, rfl, rfl, rfl, hzA, step_first _ _⟩
  case round =>
    clear hzA
    obtain ⟨j, us, ss, hj, rfl, rfl, rfl, hzr, HW⟩ := hrel
    cases us with
    | true =>
      have hr := step_true HW
      cases ss with
      | true =>
        have hr : D.cmp l' k' = -1 := hr
        by_cases hlt : j < m
        · have c6 := Lib.hid (fun A B c d n1 n2 W h1 h2 => compare_any A B n1 c n2 d (D.rowO l') (D.rowO k') (-1) W h1 h2 HL2 HK2 ⟨HRH.out.trans hr⟩)
          clear hr HRH HW hl hk
          go_wp2_with fail
          go_region_held3 (fun _ => True) (trivial) (first
            | (go_at_call 14; (with_reducible refine (on_made (n := p1) hp1 hzr.drew (cOl.out _ (hL.since hzr.drew))).mono ?_); rintro e w5 ⟨A5, c5, rfl, h51, h52, r5, hz5, hb5⟩)
            | (go_at_call 14; (with_reducible refine (on_made (n := p2) hp2 hz5 (cOk.out _ (hK.since hz5))).mono ?_); rintro e w6 ⟨A6, c6', rfl, h61, h62, r6, hz6, hb6⟩)
            | (go_at_call 21; (with_reducible refine (c6.out _ _ _ _ _ _ _ (r5.on hb6) r6).mono ?_); rintro e w7 ⟨rfl, rfl⟩))
          all_goals
            go_wp2_with (go_at_call 12; (with_reducible refine (on hz6 (known_any _)).mono ?_); rintro e w8 ⟨rfl, hz8⟩)
            go_ret
            exact ⟨rfl, hz8.below⟩
        · have c6 := Lib.hid (fun A B c d n1 n2 W h1 h2 => compare_any A B n1 c n2 d (D.rowO l') (D.rowO k') (-1) W h1 h2 HL2 HK2 ⟨HRH.out.trans hr⟩)
          clear hr HRH HW hl hk
          go_wp2_with fail
          go_region_held3 (fun _ => True) (trivial) (first
            | (go_at_call 14; (with_reducible refine (on_made (n := p1) hp1 hzr.drew (cOl.out _ (hL.since hzr.drew))).mono ?_); rintro e w5 ⟨A5, c5, rfl, h51, h52, r5, hz5, hb5⟩)
            | (go_at_call 14; (with_reducible refine (on_made (n := p2) hp2 hz5 (cOk.out _ (hK.since hz5))).mono ?_); rintro e w6 ⟨A6, c6', rfl, h61, h62, r6, hz6, hb6⟩)
            | (go_at_call 21; (with_reducible refine (c6.out _ _ _ _ _ _ _ (r5.on hb6) r6).mono ?_); rintro e w7 ⟨rfl, rfl⟩))
          all_goals
            go_wp2_with (go_at_call 12; (with_reducible refine (on hz6 (known_any _)).mono ?_); rintro e w8 ⟨rfl, hz8⟩)
            go_ret
            exact ⟨rfl, hz8.below⟩
      | false =>
        have hr : D.cmp l' k' = 1 := hr
        by_cases hlt : j < m
        · have c6 := Lib.hid (fun A B c d n1 n2 W h1 h2 => compare_any A B n1 c n2 d (D.rowO l') (D.rowO k') (1) W h1 h2 HL2 HK2 ⟨HRH.out.trans hr⟩)
          clear hr HRH HW hl hk
          go_wp2_with fail
          go_region_held3 (fun _ => True) (trivial) (first
            | (go_at_call 14; (with_reducible refine (on_made (n := p1) hp1 hzr.drew (cOl.out _ (hL.since hzr.drew))).mono ?_); rintro e w5 ⟨A5, c5, rfl, h51, h52, r5, hz5, hb5⟩)
            | (go_at_call 14; (with_reducible refine (on_made (n := p2) hp2 hz5 (cOk.out _ (hK.since hz5))).mono ?_); rintro e w6 ⟨A6, c6', rfl, h61, h62, r6, hz6, hb6⟩)
            | (go_at_call 21; (with_reducible refine (c6.out _ _ _ _ _ _ _ (r5.on hb6) r6).mono ?_); rintro e w7 ⟨rfl, rfl⟩))
          all_goals
            go_wp2_with (go_at_call 12; (with_reducible refine (on hz6 (known_any _)).mono ?_); rintro e w8 ⟨rfl, hz8⟩)
            go_ret
            exact ⟨rfl, hz8.below⟩
        · have c6 := Lib.hid (fun A B c d n1 n2 W h1 h2 => compare_any A B n1 c n2 d (D.rowO l') (D.rowO k') (1) W h1 h2 HL2 HK2 ⟨HRH.out.trans hr⟩)
          clear hr HRH HW hl hk
          go_wp2_with fail
          go_region_held3 (fun _ => True) (trivial) (first
            | (go_at_call 14; (with_reducible refine (on_made (n := p1) hp1 hzr.drew (cOl.out _ (hL.since hzr.drew))).mono ?_); rintro e w5 ⟨A5, c5, rfl, h51, h52, r5, hz5, hb5⟩)
            | (go_at_call 14; (with_reducible refine (on_made (n := p2) hp2 hz5 (cOk.out _ (hK.since hz5))).mono ?_); rintro e w6 ⟨A6, c6', rfl, h61, h62, r6, hz6, hb6⟩)
            | (go_at_call 21; (with_reducible refine (c6.out _ _ _ _ _ _ _ (r5.on hb6) r6).mono ?_); rintro e w7 ⟨rfl, rfl⟩))
          all_goals
            go_wp2_with (go_at_call 12; (with_reducible refine (on hz6 (known_any _)).mono ?_); rintro e w8 ⟨rfl, hz8⟩)
            go_ret
            exact ⟨rfl, hz8.below⟩
    | false =>
      by_cases hlt : j < m
      · obtain ⟨x, hx, hxl⟩ := at_lt (l := l') (i := j) (by rw [HLm.out]; exact hlt)
        obtain ⟨y, hy, hyl⟩ := at_lt (l := k') (i := j) (by rw [← HLK.out, HLm.out]; exact hlt)
        obtain ⟨ad, rfl, cx1⟩ := (hl.since hzr).cell (at_of HLL.out hx)
        obtain ⟨ad2, rfl, cy1⟩ := (hk.since hzr).cell (at_of HKK.out hy)
        have hx64 := hl64.out x hxl
        have hy64 := hk64.out y hyl
        have i1 : (0 : Int) ≤ (j : Int) := by omega
        have i2 : (j : Int) < (n : Int) := by omega
        have i3 : (j : Int) < (n2 : Int) := by omega
        by_cases e : x = y
        · have HN := step_same HW hx hy e
          subst e
          clear HW hx hy hxl hyl hl hk
          go_wp2_with fail
          go_quiet (fail)
          go_wp2_with fail
          go_quiet (fail)
          go_wp2
          go_roundw
          case rel => exact ⟨j + 1, false, false, by omega, by go_num, by simp, by simp, hzr.drewN _, HN⟩
          case measure => simp [intOf]; omega
        · have HN := step_unlike HW hx hy e
          have hne : (((x : Int) == (y : Int)) = false) := by rw [beq_eq_false_iff_ne]; omega
          have hne2 : (((x : Int) != (y : Int)) = true) := by rw [bne_iff_ne]; omega
          clear HW hx hy hxl hyl hl hk
          go_wp2_with fail
          go_quiet (fail)
          go_wp2_with fail
          go_quiet (fail)
          go_wp2
          go_roundw
          case rel => exact ⟨j + 1, true, decide (x < y), by omega, by go_num, rfl, by simp, hzr.drewN _, HN⟩
          case measure => simp [intOf]; omega
      · have hr := step_end HW (by rw [HLm.out]; omega) (by rw [← HLK.out, HLm.out]; omega)
        obtain ⟨rfl, hr⟩ := hr
        have c6 := Lib.hid (fun A B c d n1 n2 W h1 h2 => compare_any A B n1 c n2 d (D.rowO l') (D.rowO k') (0) W h1 h2 HL2 HK2 ⟨HRH.out.trans hr⟩)
        clear hr HRH HW hl hk
        go_wp2_with fail
        go_region_held3 (fun _ => True) (trivial) (first
          | (go_at_call 14; (with_reducible refine (on_made (n := p1) hp1 hzr.drew (cOl.out _ (hL.since hzr.drew))).mono ?_); rintro e w5 ⟨A5, c5, rfl, h51, h52, r5, hz5, hb5⟩)
          | (go_at_call 14; (with_reducible refine (on_made (n := p2) hp2 hz5 (cOk.out _ (hK.since hz5))).mono ?_); rintro e w6 ⟨A6, c6', rfl, h61, h62, r6, hz6, hb6⟩)
          | (go_at_call 21; (with_reducible refine (c6.out _ _ _ _ _ _ _ (r5.on hb6) r6).mono ?_); rintro e w7 ⟨rfl, rfl⟩))
        all_goals
          go_wp2_with (go_at_call 12; (with_reducible refine (on hz6 (known_any _)).mono ?_); rintro e w8 ⟨rfl, hz8⟩)
          go_ret
          exact ⟨rfl, hz8.below⟩

set_option maxRecDepth 20000 in
set_option maxHeartbeats 2000000 in
theorem order_eq (a b na nb : Nat) (A A1 B B1 : Option Addr) (n c n2 d m p1 p2 : Nat) (l' k' : List Nat) (w : World) (ha : a < 18446744073709551616) (hb : b < 18446744073709551616) (hab : a = b) (hnab : ¬ na < nb)
    (hna : Kept ((D.ordd a).length = na)) (hnb : Kept ((D.ordd b).length = nb)) (hp1 : Kept ((D.rowO l').length = p1)) (hp2 : Kept ((D.rowO k').length = p2))
    (hl : Row w A n LL) (hk : Row w B n2 KK) (hL : Row w A1 m (wds l')) (hK : Row w B1 m (wds k')) (HLL : Kept (LL.take m = wds l')) (HKK : Kept (KK.take m = wds k'))
    (hl64 : Kept (∀ x ∈ l', x < 18446744073709551616)) (hk64 : Kept (∀ x ∈ k', x < 18446744073709551616)) (hm : m ≤ 10) (hmn : m ≤ n) (hmn2 : m ≤ n2) (hnc : n ≤ c) (hnd : n2 ≤ d) (hc : c ≤ maxLen) (hd : d ≤ maxLen)
    (hmin : ∀ ts t W, (Builtin.min_ ts t #[.int .i64 (n : Int), .int .i64 (n2 : Int), .int .i64 10]).run Try.prog W = .ok (.int .i64 (m : Int)) W)
    (hcut : ∀ W, (Instr.slice 22 (.slice A n c) none (some (.int .i64 (m : Int))) none).run Try.prog W = .ok (.slice A1 m c) W)
    (hcut2 : ∀ W, (Instr.slice 22 (.slice B n2 d) none (some (.int .i64 (m : Int))) none).run Try.prog W = .ok (.slice B1 m d) W) :
    Calls Try.prog 6 #[.int .u64 a, .int .u64 b, .slice A n c, .slice B n2 d] w fun e w' => e = .returned (.bool true) ∧ Below w.heap.size w w' := by
  have hz := from_self w
  unfold maxLen at hc hd
  have hl10 := hL.len
  have hk10 := hK.len
  rw [wds_len] at hl10 hk10
  have HLK := Lib.hid (show l'.length = k'.length by omega)
  have HLm := Lib.hid hl10
  clear hl10 hk10
  have heq : ((a : Int) == (b : Int)) = true := by rw [beq_iff_eq]; omega
  have hab1 : a ≤ b := by omega
  have hab2 : b ≤ a := by omega
  have cC := Lib.hid (fun A B c d W h1 h2 => compare_any A B na c nb d (D.ordd a) (D.ordd b) (0) W h1 h2 ⟨D.ordd_lt ha⟩ ⟨D.ordd_lt hb⟩ ⟨by rw [D.cmp_ord]; rw [if_neg (by omega), if_pos (by omega)]⟩)
  clear hab
  have cOa := Lib.hid (fun A c W h => ordered_any A 1 c [a] W h ⟨by simpa using ha⟩ (by omega))
  have cOb := Lib.hid (fun A c W h => ordered_any A 1 c [b] W h ⟨by simpa using hb⟩ (by omega))
  rw [show D.rowO [a] = D.ordd a by simp [D.rowO]] at cOa
  rw [show D.rowO [b] = D.ordd b by simp [D.rowO]] at cOb
  have HR := D.cmp_rows l' k' HLK.out
  have HL2 : Kept (∀ x ∈ D.rowO l', x < 256) := ⟨D.rowO_lt hl64.out⟩
  have HK2 : Kept (∀ x ∈ D.rowO k', x < 256) := ⟨D.rowO_lt hk64.out⟩
  have cOl := Lib.hid (fun W h => ordered_any A1 m c l' W h hl64 (by omega))
  have cOk := Lib.hid (fun W h => ordered_any B1 m d k' W h hk64 (by omega))
  have HRH := Lib.hid HR
  clear HR
  go_enter Try.func6, Try.ntmps6
  go_wp2_with (first
    | (go_at_call 14; (with_reducible refine (on_made (n := na) hna (hz.alloc _) (cOa.out _ _ _ ?_)).mono ?_); (exact lit_row _ _ _ _ _ _ (by rfl) (by rfl) (by simp)); rintro e w1 ⟨X, cx, rfl, hx1, hx2, rx, hz1, hb1⟩)
    | (go_at_call 14; (with_reducible refine (on_made (n := nb) hnb (hz1.alloc _) (cOb.out _ _ _ ?_)).mono ?_); (exact lit_row _ _ _ _ _ _ (by rfl) (by rfl) (by simp)); rintro e w2 ⟨Y, cy, rfl, hy1, hy2, ry, hz2, hb2⟩; have rx2 := (rx.alloc _).on hb2)
    | (go_at_call 21; (with_reducible refine (cC.out _ _ _ _ _ rx2 ry).mono ?_); rintro e w3 ⟨rfl, rfl⟩))
  have hzA := hz2
  clear hz hz1 hz2 hb1 hb2 rx rx2 ry cOa cOb cC hx1 hx2 hy1 hy2
  go_loopw [13, 14, 15] (fun s u i wr => ∃ (j : Nat) (us ss : Bool), j ≤ m ∧ i = .int .i64 j ∧ u = .bool us ∧ s = .bool ss ∧ From w wr ∧ Step l' k' j us ss) (fun _ _ i _ => m - (intOf i).toNat)
  case atStart => exact ⟨0, false, false, Nat.zero_le _, rfl, rfl, rfl, hzA, step_first _ _⟩
  case round =>
    clear hzA
    obtain ⟨j, us, ss, hj, rfl, rfl, rfl, hzr, HW⟩ := hrel
    cases us with
    | true =>
      have hr := step_true HW
      cases ss with
      | true =>
        have hr : D.cmp l' k' = -1 := hr
        by_cases hlt : j < m
        · have c6 := Lib.hid (fun A B c d n1 n2 W h1 h2 => compare_any A B n1 c n2 d (D.rowO l') (D.rowO k') (-1) W h1 h2 HL2 HK2 ⟨HRH.out.trans hr⟩)
          clear hr HRH HW hl hk
          go_wp2_with fail
          go_region_held3 (fun _ => True) (trivial) (first
            | (go_at_call 14; (with_reducible refine (on_made (n := p1) hp1 hzr.drew (cOl.out _ (hL.since hzr.drew))).mono ?_); rintro e w5 ⟨A5, c5, rfl, h51, h52, r5, hz5, hb5⟩)
            | (go_at_call 14; (with_reducible refine (on_made (n := p2) hp2 hz5 (cOk.out _ (hK.since hz5))).mono ?_); rintro e w6 ⟨A6, c6', rfl, h61, h62, r6, hz6, hb6⟩)
            | (go_at_call 21; (with_reducible refine (c6.out _ _ _ _ _ _ _ (r5.on hb6) r6).mono ?_); rintro e w7 ⟨rfl, rfl⟩))
          all_goals
            go_wp2_with (go_at_call 12; (with_reducible refine (on hz6 (known_any _)).mono ?_); rintro e w8 ⟨rfl, hz8⟩)
            go_ret
            exact ⟨rfl, hz8.below⟩
        · have c6 := Lib.hid (fun A B c d n1 n2 W h1 h2 => compare_any A B n1 c n2 d (D.rowO l') (D.rowO k') (-1) W h1 h2 HL2 HK2 ⟨HRH.out.trans hr⟩)
          clear hr HRH HW hl hk
          go_wp2_with fail
          go_region_held3 (fun _ => True) (trivial) (first
            | (go_at_call 14; (with_reducible refine (on_made (n := p1) hp1 hzr.drew (cOl.out _ (hL.since hzr.drew))).mono ?_); rintro e w5 ⟨A5, c5, rfl, h51, h52, r5, hz5, hb5⟩)
            | (go_at_call 14; (with_reducible refine (on_made (n := p2) hp2 hz5 (cOk.out _ (hK.since hz5))).mono ?_); rintro e w6 ⟨A6, c6', rfl, h61, h62, r6, hz6, hb6⟩)
            | (go_at_call 21; (with_reducible refine (c6.out _ _ _ _ _ _ _ (r5.on hb6) r6).mono ?_); rintro e w7 ⟨rfl, rfl⟩))
          all_goals
            go_wp2_with (go_at_call 12; (with_reducible refine (on hz6 (known_any _)).mono ?_); rintro e w8 ⟨rfl, hz8⟩)
            go_ret
            exact ⟨rfl, hz8.below⟩
      | false =>
        have hr : D.cmp l' k' = 1 := hr
        by_cases hlt : j < m
        · have c6 := Lib.hid (fun A B c d n1 n2 W h1 h2 => compare_any A B n1 c n2 d (D.rowO l') (D.rowO k') (1) W h1 h2 HL2 HK2 ⟨HRH.out.trans hr⟩)
          clear hr HRH HW hl hk
          go_wp2_with fail
          go_region_held3 (fun _ => True) (trivial) (first
            | (go_at_call 14; (with_reducible refine (on_made (n := p1) hp1 hzr.drew (cOl.out _ (hL.since hzr.drew))).mono ?_); rintro e w5 ⟨A5, c5, rfl, h51, h52, r5, hz5, hb5⟩)
            | (go_at_call 14; (with_reducible refine (on_made (n := p2) hp2 hz5 (cOk.out _ (hK.since hz5))).mono ?_); rintro e w6 ⟨A6, c6', rfl, h61, h62, r6, hz6, hb6⟩)
            | (go_at_call 21; (with_reducible refine (c6.out _ _ _ _ _ _ _ (r5.on hb6) r6).mono ?_); rintro e w7 ⟨rfl, rfl⟩))
          all_goals
            go_wp2_with (go_at_call 12; (with_reducible refine (on hz6 (known_any _)).mono ?_); rintro e w8 ⟨rfl, hz8⟩)
            go_ret
            exact ⟨rfl, hz8.below⟩
        · have c6 := Lib.hid (fun A B c d n1 n2 W h1 h2 => compare_any A B n1 c n2 d (D.rowO l') (D.rowO k') (1) W h1 h2 HL2 HK2 ⟨HRH.out.trans hr⟩)
          clear hr HRH HW hl hk
          go_wp2_with fail
          go_region_held3 (fun _ => True) (trivial) (first
            | (go_at_call 14; (with_reducible refine (on_made (n := p1) hp1 hzr.drew (cOl.out _ (hL.since hzr.drew))).mono ?_); rintro e w5 ⟨A5, c5, rfl, h51, h52, r5, hz5, hb5⟩)
            | (go_at_call 14; (with_reducible refine (on_made (n := p2) hp2 hz5 (cOk.out _ (hK.since hz5))).mono ?_); rintro e w6 ⟨A6, c6', rfl, h61, h62, r6, hz6, hb6⟩)
            | (go_at_call 21; (with_reducible refine (c6.out _ _ _ _ _ _ _ (r5.on hb6) r6).mono ?_); rintro e w7 ⟨rfl, rfl⟩))
          all_goals
            go_wp2_with (go_at_call 12; (with_reducible refine (on hz6 (known_any _)).mono ?_); rintro e w8 ⟨rfl, hz8⟩)
            go_ret
            exact ⟨rfl, hz8.below⟩
    | false =>
      by_cases hlt : j < m
      · obtain ⟨x, hx, hxl⟩ := at_lt (l := l') (i := j) (by rw [HLm.out]; exact hlt)
        obtain ⟨y, hy, hyl⟩ := at_lt (l := k') (i := j) (by rw [← HLK.out, HLm.out]; exact hlt)
        obtain ⟨ad, rfl, cx1⟩ := (hl.since hzr).cell (at_of HLL.out hx)
        obtain ⟨ad2, rfl, cy1⟩ := (hk.since hzr).cell (at_of HKK.out hy)
        have hx64 := hl64.out x hxl
        have hy64 := hk64.out y hyl
        have i1 : (0 : Int) ≤ (j : Int) := by omega
        have i2 : (j : Int) < (n : Int) := by omega
        have i3 : (j : Int) < (n2 : Int) := by omega
        by_cases e : x = y
        · have HN := step_same HW hx hy e
          subst e
          clear HW hx hy hxl hyl hl hk
          go_wp2_with fail
          go_quiet (fail)
          go_wp2_with fail
          go_quiet (fail)
          go_wp2
          go_roundw
          case rel => exact ⟨j + 1, false, false, by omega, by go_num, by simp, by simp, hzr.drewN _, HN⟩
          case measure => simp [intOf]; omega
        · have HN := step_unlike HW hx hy e
          have hne : (((x : Int) == (y : Int)) = false) := by rw [beq_eq_false_iff_ne]; omega
          have hne2 : (((x : Int) != (y : Int)) = true) := by rw [bne_iff_ne]; omega
          clear HW hx hy hxl hyl hl hk
          go_wp2_with fail
          go_quiet (fail)
          go_wp2_with fail
          go_quiet (fail)
          go_wp2
          go_roundw
          case rel => exact ⟨j + 1, true, decide (x < y), by omega, by go_num, rfl, by simp, hzr.drewN _, HN⟩
          case measure => simp [intOf]; omega
      · have hr := step_end HW (by rw [HLm.out]; omega) (by rw [← HLK.out, HLm.out]; omega)
        obtain ⟨rfl, hr⟩ := hr
        have c6 := Lib.hid (fun A B c d n1 n2 W h1 h2 => compare_any A B n1 c n2 d (D.rowO l') (D.rowO k') (0) W h1 h2 HL2 HK2 ⟨HRH.out.trans hr⟩)
        clear hr HRH HW hl hk
        go_wp2_with fail
        go_region_held3 (fun _ => True) (trivial) (first
          | (go_at_call 14; (with_reducible refine (on_made (n := p1) hp1 hzr.drew (cOl.out _ (hL.since hzr.drew))).mono ?_); rintro e w5 ⟨A5, c5, rfl, h51, h52, r5, hz5, hb5⟩)
          | (go_at_call 14; (with_reducible refine (on_made (n := p2) hp2 hz5 (cOk.out _ (hK.since hz5))).mono ?_); rintro e w6 ⟨A6, c6', rfl, h61, h62, r6, hz6, hb6⟩)
          | (go_at_call 21; (with_reducible refine (c6.out _ _ _ _ _ _ _ (r5.on hb6) r6).mono ?_); rintro e w7 ⟨rfl, rfl⟩))
        all_goals
          go_wp2_with (go_at_call 12; (with_reducible refine (on hz6 (known_any _)).mono ?_); rintro e w8 ⟨rfl, hz8⟩)
          go_ret
          exact ⟨rfl, hz8.below⟩

theorem order_all (a0 a1 : Int) (A : Option Addr) (len cap : Nat) (zs : List Int) (B : Option Addr) (len2 cap2 : Nat) (zs2 : List Int) (W : World) (ha0 : (Lit.int .u64 a0).wf = true) (ha1 : (Lit.int .u64 a1).wf = true) (h : IsRow .u64 W A len cap zs) (h2 : IsRow .u64 W B len2 cap2 zs2) :
    Calls Try.prog 6 #[.int .u64 a0, .int .u64 a1, .slice A len cap, .slice B len2 cap2] W fun e w' => e = .returned (.bool true) ∧ Below W.heap.size W w' := by
  have b0 := bounds_u64 ha0
  have b1 := bounds_u64 ha1
  obtain ⟨a, rfl⟩ : ∃ a : Nat, a0 = (a : Int) := ⟨a0.toNat, by omega⟩
  obtain ⟨b, rfl⟩ : ∃ b : Nat, a1 = (b : Int) := ⟨a1.toNat, by omega⟩
  have ha : a < 18446744073709551616 := by omega
  have hb : b < 18446744073709551616 := by omega
  obtain ⟨l, hr, hl, h3, h4⟩ := h.words
  obtain ⟨k, hs, hk, h5, h6⟩ := h2.words
  obtain ⟨m, hm1, hm2, hm3, hmin⟩ := min_run3 len len2 10 10 rfl
  obtain ⟨A1, hcut, hR⟩ := upto_run_w A len cap m m rfl (by omega)
  obtain ⟨B1, hcut2, hR2⟩ := upto_run_w B len2 cap2 m m rfl (by omega)
  have q1 := hR W _ hr hm1
  have q2 := hR2 W _ hs hm2
  rw [wds_take] at q1 q2
  have hl64 : Kept (∀ x ∈ l.take m, x < 18446744073709551616) := ⟨fun x hx => hl.out x (List.mem_of_mem_take hx)⟩
  have hk64 : Kept (∀ x ∈ k.take m, x < 18446744073709551616) := ⟨fun x hx => hk.out x (List.mem_of_mem_take hx)⟩
  by_cases hab : a < b
  · by_cases hn : (D.ordd a).length < (D.ordd b).length
    · exact order_lt1 a b _ _ A A1 B B1 len cap len2 cap2 m _ _ _ _ W ha hb hab hn ⟨rfl⟩ ⟨rfl⟩ ⟨rfl⟩ ⟨rfl⟩ hr hs q1 q2 ⟨wds_take l m⟩ ⟨wds_take k m⟩ hl64 hk64 hm3 hm1 hm2 h3 h5 h4 h6 hmin hcut hcut2
    · exact order_lt2 a b _ _ A A1 B B1 len cap len2 cap2 m _ _ _ _ W ha hb hab hn ⟨rfl⟩ ⟨rfl⟩ ⟨rfl⟩ ⟨rfl⟩ hr hs q1 q2 ⟨wds_take l m⟩ ⟨wds_take k m⟩ hl64 hk64 hm3 hm1 hm2 h3 h5 h4 h6 hmin hcut hcut2
  · have hn : ¬ (D.ordd a).length < (D.ordd b).length := fun hn => hab (D.len_lt (by simp [D.ordd] at hn; exact hn))
    by_cases hba : b < a
    · exact order_gt a b _ _ A A1 B B1 len cap len2 cap2 m _ _ _ _ W ha hb hba hn ⟨rfl⟩ ⟨rfl⟩ ⟨rfl⟩ ⟨rfl⟩ hr hs q1 q2 ⟨wds_take l m⟩ ⟨wds_take k m⟩ hl64 hk64 hm3 hm1 hm2 h3 h5 h4 h6 hmin hcut hcut2
    · exact order_eq a b _ _ A A1 B B1 len cap len2 cap2 m _ _ _ _ W ha hb (by omega) hn ⟨rfl⟩ ⟨rfl⟩ ⟨rfl⟩ ⟨rfl⟩ hr hs q1 q2 ⟨wds_take l m⟩ ⟨wds_take k m⟩ hl64 hk64 hm3 hm1 hm2 h3 h5 h4 h6 hmin hcut hcut2
end Go.Proofs.Ytkjnaflifepncaa
