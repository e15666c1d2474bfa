/-
  The law of tags' chains: its walk.
-/
import Derived.Test.YtgbnaammphilhaaDoorChm
import Derived.Test.YtgbnaammphilhaaDoorTpw
set_option linter.unusedVariables false
set_option linter.unusedSimpArgs false
namespace Go.Proofs.YtgbnaammphilhaaDoor
open Go.RowKit
attribute [local go_sem ↓] Go.wp_at_zero Go.wp_at_succ ld_a ld_n st_a st_n eq_a eq_n ne_a ne_n bsl_n lv_a lv_n lp_3 lp_4
attribute [local go_sem] run_ld_a run_ld_n run_sw_a run_sw_n run_eq_a run_eq_n run_ne_a run_ne_n run_bsl1_n run_lv_a run_lv_n st_z ne_z eq_z rd_new rd_old rd_drew rd_drewN rd_set tn_new tn_old tn_drew tn_drewN setRow_alloc run_lp_3 run_lp_4 rd_ext cell_ext
theorem blk_add (a : Addr) (k : Nat) : (a.add k).block = a.block := by unfold Addr.add; split <;> rfl
attribute [local go_sem] blk_add

theorem len_split {L : List D.Tg} {x : D.Tg} (h : L.length ≤ 4) (h1 : L[0]? = some x) : ∃ n, L.length = n + 1 ∧ n ≤ 3 := by
  have := (List.getElem?_eq_some_iff.1 h1).1
  exact ⟨L.length - 1, by omega, by omega⟩
set_option maxRecDepth 100000 in
set_option maxHeartbeats 8000000 in
theorem chains_all (t : D.Tg) (s : ByteArray) (w : World) (hs : s.size ≤ 9223372036854775807) : Calls Tryd.prog 6 #[.agg (nc t), .string s] w fun e w' => e = .returned (.bool true) ∧ Below w.heap.size w w' := by
  obtain ⟨m, hm1, hm2, hmin⟩ := min_run s.size 30 30 rfl
  have hus := ext_size_le s m
  obtain ⟨u, hu⟩ : ∃ u, s.extract 0 m = u := ⟨_, rfl⟩
  rw [hu] at hus
  have cK := Lib.hid known_any
  have cP := fun w => tag_parse u w (by omega)
  have z0 := (from_self w).alloc (.cells (nc t) 29)
  have f0 := rd_new w _ 29 t rfl
  have k0 : tn (w.alloc (.cells (nc t) 29)) w.heap.size = true := by rw [tn_new _ _ _ _ rfl, nc_size]; rfl
  obtain ⟨x, er0, hP, hx⟩ : ∃ (x : D.Tg) (e : Int), (∀ w : World, Calls Tryd.prog 8 #[.string u] w fun e' w' => e' = .returned (.tuple #[.agg (nc x), .int .i64 e]) ∧ Below w.heap.size w w') ∧ (e = 0 ∨ e = 14) := by
    refine ⟨_, _, cP, ?_⟩
    cases D.parse (D.ns u) with
    | none => exact .inr rfl
    | some p => exact .inl rfl
  have CP := Lib.hid hP
  clear cP hP hus
  rcases hx with rfl | rfl
  · go_enter Tryd.func6, Tryd.ntmps6
    go_wp2_with (first
      | (go_at_call 8; (with_reducible refine (CP.out _).mono ?_); rintro e w1 ⟨rfl, b1⟩; have z1 := z0.on b1; have f1 := rd_on f0 b1; have g1 := rd_new w1 _ 29 x rfl; have k1 := tn_on k0 b1; have s1 := tn_lt k1))
    obtain ⟨W0, hW0⟩ : ∃ W0, (w1.alloc (.cells (nc x) 29)).setRow w.heap.size (nc x) = W0 := ⟨_, rfl⟩
    have fx : rd W0 ⟨w.heap.size, 0, none⟩ = some x := by rw [← hW0]; exact rd_set _ _ _ (by rw [tn_old _ _ _ s1]; exact k1)
    have zW : From w W0 := by rw [← hW0]; exact ⟨below_setRow (z1.alloc _).below (Nat.le_refl _) _⟩
    rw [hW0]
    clear hW0 z0 f0 k0 z1 f1 g1 k1 s1 b1 CP
    have hs0 : w.heap.size < W0.heap.size := rd_lt fx
    cases hr : D.right x with
    | false =>
      have cC := chain_any x
      rw [cht_none hr] at cC
      have cR := right_any x
      rw [hr] at cR
      have CC := Lib.hid cC
      have CR := Lib.hid cR
      clear cC cR hr
      go_wp2_with (first
        | (go_at_call 19; (with_reducible refine (CC.out _).mono ?_); rintro e w2 ⟨A, c, rfl, ho, b2⟩; have z2 := zW.on b2; have f2 := rd_on fx b2)
        | (go_at_call 13; (with_reducible refine (CR.out _).mono ?_); rintro e w3 ⟨rfl, b3⟩; have z3 := z2.on b3)
        | (go_at_call 9; (with_reducible refine (cK.out _).mono ?_); rintro e w4 ⟨rfl, b4⟩; have z4 := z3.on b4))
      go_ret
      exact ⟨rfl, z4.below⟩
    | true =>
      have cC := chain_any x
      have cR := right_any x
      rw [hr] at cR
      have hl4 := D.cht_len x
      have hfst := cht_first hr
      have hlst := cht_last hr
      have hlnk := Lib.hid (lnk_any hr)
      obtain ⟨L, hL⟩ : ∃ L, D.cht x = L := ⟨_, rfl⟩
      rw [hL] at cC hl4 hfst hlst
      obtain ⟨n, hn, hn3⟩ := len_split hl4 hfst
      rw [hn] at hlst
      simp only [hn] at cC
      have HN := Lib.hid hn
      have HL := Lib.hid hL
      have CC := Lib.hid cC
      have CR := Lib.hid cR
      have hsm : sm x x = true := by simp [sm]
      have hsz : sm D.zero D.zero = true := rfl
      clear cC cR hr hl4 hn hL
      have hlst : L[n]? = some D.zero := hlst
      go_wp2_with (first
        | (go_at_call 19; (with_reducible refine (CC.out _).mono ?_); rintro e w2 ⟨A, c, rfl, ho, b2⟩; have z2 := zW.on b2; have f2 := rd_on fx b2)
        | (go_at_call 13; (with_reducible refine (CR.out _).mono ?_); rintro e w3 ⟨rfl, b3⟩; have z3 := z2.on b3; have f3 := rd_on f2 b3; have r3 := ho.to_row.on b3))
      clear ho b2 b3 f2 fx zW z2
      obtain ⟨ad, rfl, hadl, q0⟩ := r3.rd hfst
      obtain ⟨ad', e', _, qn⟩ := r3.rd hlst
      injection e' with e'
      subst e'
      have i1 : ¬ ((n : Int) + 1 < 1) := by omega
      have i4 : ¬ (4 < (n : Int) + 1) := by omega
      have i5 : (0 : Int) < (n : Int) + 1 := by omega
      have i6 : (n : Int) < (n : Int) + 1 := by omega
      have i7 : (0 : Int) ≤ (n : Int) := by omega
      have hs3 : w.heap.size < w3.heap.size := rd_lt f3
      have q0' : rd w3 (ad.add 0) = some x := by simpa using q0
      have q0'' : rd w3 ad = some x := by simpa [Addr.add] using q0
      refine wp_region_ext (by kernel_rfl) (by kernel_rfl) ?_
      repeat (go_big_quiet_step (fail))
      refine wpQuiet_nil ?_
      intro w5 hw5
      have b5 := ext_to hw5
      clear hw5
      have z5 := z3.on b5
      have f5 := rd_on f3 b5
      have r5 := r3.on b5
      clear z3 f3 r3 b5 q0 qn q0' q0'' i1 i4 i5 i6 i7 hs3
      go_wp2
      go_loopw [8] (fun i wr => ∃ k : Nat, k ≤ n + 1 ∧ i = .int .i64 k ∧ rd wr ⟨w.heap.size, 0, none⟩ = some x ∧ NRow wr (some ad) (n + 1) L ∧ From w wr) (fun i _ => n + 1 - (intOf i).toNat)
      case atStart => exact ⟨0, Nat.zero_le _, rfl, f5, r5, z5⟩
      case round =>
        clear f5 r5 z5 hadl
        obtain ⟨k, hk, rfl, fr, rr, zr⟩ := hrel
        by_cases hlt : k < n + 1
        · obtain ⟨v, hv⟩ := nat_lt (l := L) (i := k) (by rw [HN.out]; exact hlt)
          have K := hlnk.out k v (by rw [HL.out]; exact hv)
          have hv' : (D.cht x)[k]? = some v := by rw [HL.out]; exact hv
          obtain ⟨h1, h2, h3, h4⟩ := right_text K.right
          have cT := text_any v
          have cP := fun w => tag_parse (D.sb (D.tx v)) w h1
          rw [h2] at cP
          obtain ⟨o, ho⟩ : ∃ o, D.pt v = o := ⟨_, rfl⟩
          rw [ho] at cP h3 h4
          simp only [h4] at cP
          have cP := fun w => (show Calls Tryd.prog 8 #[.string (D.sb (D.tx v))] w fun e w' => e = .returned (.tuple #[.agg (nc v), .int .i64 0]) ∧ Below w.heap.size w w' from by
            have := cP w
            cases o with
            | none => cases h3
            | some p => exact this)
          have cN := parent_any v
          have cB := below_any x v
          have cM := common_any x v
          rw [lnk_below hv'] at cB
          rw [lnk_common K hv'] at cM
          obtain ⟨e1, e2, _⟩ := lnk_has K
          rw [HL.out, HN.out] at e1
          rw [HL.out] at e2
          obtain ⟨τ, hτ⟩ : ∃ τ, D.sb (D.tx v) = τ := ⟨_, rfl⟩
          rw [hτ] at cT cP
          obtain ⟨q, hq⟩ : ∃ q, (D.tpar v).1 = q := ⟨_, rfl⟩
          obtain ⟨h, hh⟩ : ∃ h, (D.tpar v).2 = h := ⟨_, rfl⟩
          rw [hq, hh] at cN
          rw [hh] at e1
          rw [hq, hh] at e2
          have E1 := Lib.hid e1
          have E2 := Lib.hid e2
          clear e1 e2
          have CT := Lib.hid cT
          have CP := Lib.hid cP
          have CN := Lib.hid cN
          have CB := Lib.hid cB
          have CM := Lib.hid cM
          have hsv : sm v v = true := by simp [sm]
          have hsq : sm q q = true := by simp [sm]
          obtain ⟨ad', e', hadl, rk⟩ := rr.rd hv
          injection e' with e'
          subst e'
          have i0 : (0 : Int) ≤ (k : Int) := by omega
          have i2 : (k : Int) < (n : Int) + 1 := by omega
          have i3 : (0 : Int) ≤ (k : Int) + 1 := by omega
          clear cT cP cN cB cM h1 h2 h3 h4 ho hτ hq hh K hv'
          go_wp2_with (first
            | (go_at_call 11; (with_reducible refine (CT.out _).mono ?_); rintro e w4 ⟨rfl, b4⟩; have z4 := zr.on b4; have f4 := rd_on fr b4; have rk4 := rd_on rk b4; have rn4 := rr.on b4)
            | (go_at_call 8; (with_reducible refine (CP.out _).mono ?_); rintro e w5 ⟨rfl, b5⟩; have z5 := z4.on b5; have f5 := rd_on f4 b5; have rk5 := rd_on rk4 b5; have rn5 := rn4.on b5; have g5 := rd_new w5 _ 29 v rfl; have s5 := rd_lt rk5; rw [blk_add] at s5)
            | (go_at_call 18; (with_reducible refine (CN.out _).mono ?_); rintro e w6 ⟨rfl, b6⟩; have z6 := (z5.alloc _).on b6; have f6 := rd_on (rd_on f5 (below_alloc_ _ _)) b6; have rn6 := (rn5.alloc _).on b6; have g6 := rd_on g5 b6))
          have z7 := z6.alloc (.cells (nc q) 29)
          have f7 := rd_on f6 (below_alloc_ _ (.cells (nc q) 29))
          have g7 := rd_on g6 (below_alloc_ _ (.cells (nc q) 29))
          have rn7 := rn6.alloc (.cells (nc q) 29)
          have p7 := rd_new w6 _ 29 q rfl
          clear zr fr rk rr z4 f4 rk4 rn4 z5 f5 rk5 rn5 g5 s5 z6 f6 rn6 g6 b4 b5 b6 hadl
          obtain ⟨w7, hw7⟩ : ∃ w7, w6.alloc (.cells (nc q) 29) = w7 := ⟨_, rfl⟩
          rw [hw7] at z7 f7 g7 rn7 p7
          try rw [hw7]
          clear hw7
          obtain ⟨ad', e', hadl, rk⟩ := rn7.rd hv
          injection e' with e'
          subst e'
          have sf := rd_lt f7
          have sg := rd_lt g7
          have sp := rd_lt p7
          simp only at sf sg sp
          cases h with
          | true =>
            have hlt2 : k + 1 < n + 1 := of_decide_eq_true E1.out.symm
            have i5 : (k : Int) + 1 < (n : Int) + 1 := by omega
            obtain ⟨ad', e', _, rq⟩ := rn7.rd (E2.out rfl)
            injection e' with e'
            subst e'
            refine wp_region_ext (by kernel_rfl) (by kernel_rfl) ?_
            repeat (go_big_quiet_step ((first
              | (go_at_call 25; exact calls_ext (CB.out _))
              | (go_at_call 24; exact calls_ext (CM.out _)))))
            refine wpQuiet_nil ?_
            intro w8 hw8
            have b8 := ext_to hw8
            clear hw8
            have z8 := z7.on b8
            have f8 := rd_on f7 b8
            have r8 := rn7.on b8
            clear z7 f7 g7 rn7 p7 rk rq b8
            go_wp2
            go_roundw
            case rel => exact ⟨k + 1, by omega, by go_num, f8, r8, z8⟩
            case measure => simp [intOf]; omega
          | false =>
            have hlt2 : ¬ (k + 1 < n + 1) := of_decide_eq_false E1.out.symm
            have i5 : ¬ ((k : Int) + 1 < (n : Int) + 1) := by omega
            refine wp_region_ext (by kernel_rfl) (by kernel_rfl) ?_
            repeat (go_big_quiet_step ((first
              | (go_at_call 25; exact calls_ext (CB.out _))
              | (go_at_call 24; exact calls_ext (CM.out _)))))
            refine wpQuiet_nil ?_
            intro w8 hw8
            have b8 := ext_to hw8
            clear hw8
            have z8 := z7.on b8
            have f8 := rd_on f7 b8
            have r8 := rn7.on b8
            clear z7 f7 g7 rn7 p7 rk b8
            go_wp2
            go_roundw
            case rel => exact ⟨k + 1, by omega, by go_num, f8, r8, z8⟩
            case measure => simp [intOf]; omega
        · have i2 : ¬ ((k : Int) < (n : Int) + 1) := by omega
          go_wp2_with (first
            | (go_at_call 9; (with_reducible refine (cK.out _).mono ?_); rintro e w4 ⟨rfl, b4⟩; have z4 := zr.on b4))
          go_ret
          exact ⟨rfl, z4.below⟩
  · go_enter Tryd.func6, Tryd.ntmps6
    go_wp2_with (first
      | (go_at_call 8; (with_reducible refine (CP.out _).mono ?_); rintro e w1 ⟨rfl, b1⟩; have z1 := z0.on b1; have f1 := rd_on f0 b1; have g1 := rd_new w1 _ 29 x rfl; have k1 := tn_on k0 b1; have s1 := tn_lt k1))
    obtain ⟨W0, hW0⟩ : ∃ W0, w1.alloc (.cells (nc x) 29) = W0 := ⟨_, rfl⟩
    have fx : rd W0 ⟨w.heap.size, 0, none⟩ = some t := by rw [← hW0]; rw [rd_old _ _ _ s1]; exact f1
    have zW : From w W0 := by rw [← hW0]; exact z1.alloc _
    rw [hW0]
    clear hW0 z0 f0 k0 z1 f1 g1 k1 s1 b1 CP
    have hs0 : w.heap.size < W0.heap.size := rd_lt fx
    cases hr : D.right t with
    | false =>
      have cC := chain_any t
      rw [cht_none hr] at cC
      have cR := right_any t
      rw [hr] at cR
      have CC := Lib.hid cC
      have CR := Lib.hid cR
      clear cC cR hr
      go_wp2_with (first
        | (go_at_call 19; (with_reducible refine (CC.out _).mono ?_); rintro e w2 ⟨A, c, rfl, ho, b2⟩; have z2 := zW.on b2; have f2 := rd_on fx b2)
        | (go_at_call 13; (with_reducible refine (CR.out _).mono ?_); rintro e w3 ⟨rfl, b3⟩; have z3 := z2.on b3)
        | (go_at_call 9; (with_reducible refine (cK.out _).mono ?_); rintro e w4 ⟨rfl, b4⟩; have z4 := z3.on b4))
      go_ret
      exact ⟨rfl, z4.below⟩
    | true =>
      have cC := chain_any t
      have cR := right_any t
      rw [hr] at cR
      have hl4 := D.cht_len t
      have hfst := cht_first hr
      have hlst := cht_last hr
      have hlnk := Lib.hid (lnk_any hr)
      obtain ⟨L, hL⟩ : ∃ L, D.cht t = L := ⟨_, rfl⟩
      rw [hL] at cC hl4 hfst hlst
      obtain ⟨n, hn, hn3⟩ := len_split hl4 hfst
      rw [hn] at hlst
      simp only [hn] at cC
      have HN := Lib.hid hn
      have HL := Lib.hid hL
      have CC := Lib.hid cC
      have CR := Lib.hid cR
      have hsm : sm t t = true := by simp [sm]
      have hsz : sm D.zero D.zero = true := rfl
      clear cC cR hr hl4 hn hL
      have hlst : L[n]? = some D.zero := hlst
      go_wp2_with (first
        | (go_at_call 19; (with_reducible refine (CC.out _).mono ?_); rintro e w2 ⟨A, c, rfl, ho, b2⟩; have z2 := zW.on b2; have f2 := rd_on fx b2)
        | (go_at_call 13; (with_reducible refine (CR.out _).mono ?_); rintro e w3 ⟨rfl, b3⟩; have z3 := z2.on b3; have f3 := rd_on f2 b3; have r3 := ho.to_row.on b3))
      clear ho b2 b3 f2 fx zW z2
      obtain ⟨ad, rfl, hadl, q0⟩ := r3.rd hfst
      obtain ⟨ad', e', _, qn⟩ := r3.rd hlst
      injection e' with e'
      subst e'
      have i1 : ¬ ((n : Int) + 1 < 1) := by omega
      have i4 : ¬ (4 < (n : Int) + 1) := by omega
      have i5 : (0 : Int) < (n : Int) + 1 := by omega
      have i6 : (n : Int) < (n : Int) + 1 := by omega
      have i7 : (0 : Int) ≤ (n : Int) := by omega
      have hs3 : w.heap.size < w3.heap.size := rd_lt f3
      have q0' : rd w3 (ad.add 0) = some t := by simpa using q0
      have q0'' : rd w3 ad = some t := by simpa [Addr.add] using q0
      refine wp_region_ext (by kernel_rfl) (by kernel_rfl) ?_
      repeat (go_big_quiet_step (fail))
      refine wpQuiet_nil ?_
      intro w5 hw5
      have b5 := ext_to hw5
      clear hw5
      have z5 := z3.on b5
      have f5 := rd_on f3 b5
      have r5 := r3.on b5
      clear z3 f3 r3 b5 q0 qn q0' q0'' i1 i4 i5 i6 i7 hs3
      go_wp2
      go_loopw [8] (fun i wr => ∃ k : Nat, k ≤ n + 1 ∧ i = .int .i64 k ∧ rd wr ⟨w.heap.size, 0, none⟩ = some t ∧ NRow wr (some ad) (n + 1) L ∧ From w wr) (fun i _ => n + 1 - (intOf i).toNat)
      case atStart => exact ⟨0, Nat.zero_le _, rfl, f5, r5, z5⟩
      case round =>
        clear f5 r5 z5 hadl
        obtain ⟨k, hk, rfl, fr, rr, zr⟩ := hrel
        by_cases hlt : k < n + 1
        · obtain ⟨v, hv⟩ := nat_lt (l := L) (i := k) (by rw [HN.out]; exact hlt)
          have K := hlnk.out k v (by rw [HL.out]; exact hv)
          have hv' : (D.cht t)[k]? = some v := by rw [HL.out]; exact hv
          obtain ⟨h1, h2, h3, h4⟩ := right_text K.right
          have cT := text_any v
          have cP := fun w => tag_parse (D.sb (D.tx v)) w h1
          rw [h2] at cP
          obtain ⟨o, ho⟩ : ∃ o, D.pt v = o := ⟨_, rfl⟩
          rw [ho] at cP h3 h4
          simp only [h4] at cP
          have cP := fun w => (show Calls Tryd.prog 8 #[.string (D.sb (D.tx v))] w fun e w' => e = .returned (.tuple #[.agg (nc v), .int .i64 0]) ∧ Below w.heap.size w w' from by
            have := cP w
            cases o with
            | none => cases h3
            | some p => exact this)
          have cN := parent_any v
          have cB := below_any t v
          have cM := common_any t v
          rw [lnk_below hv'] at cB
          rw [lnk_common K hv'] at cM
          obtain ⟨e1, e2, _⟩ := lnk_has K
          rw [HL.out, HN.out] at e1
          rw [HL.out] at e2
          obtain ⟨τ, hτ⟩ : ∃ τ, D.sb (D.tx v) = τ := ⟨_, rfl⟩
          rw [hτ] at cT cP
          obtain ⟨q, hq⟩ : ∃ q, (D.tpar v).1 = q := ⟨_, rfl⟩
          obtain ⟨h, hh⟩ : ∃ h, (D.tpar v).2 = h := ⟨_, rfl⟩
          rw [hq, hh] at cN
          rw [hh] at e1
          rw [hq, hh] at e2
          have E1 := Lib.hid e1
          have E2 := Lib.hid e2
          clear e1 e2
          have CT := Lib.hid cT
          have CP := Lib.hid cP
          have CN := Lib.hid cN
          have CB := Lib.hid cB
          have CM := Lib.hid cM
          have hsv : sm v v = true := by simp [sm]
          have hsq : sm q q = true := by simp [sm]
          obtain ⟨ad', e', hadl, rk⟩ := rr.rd hv
          injection e' with e'
          subst e'
          have i0 : (0 : Int) ≤ (k : Int) := by omega
          have i2 : (k : Int) < (n : Int) + 1 := by omega
          have i3 : (0 : Int) ≤ (k : Int) + 1 := by omega
          clear cT cP cN cB cM h1 h2 h3 h4 ho hτ hq hh K hv'
          go_wp2_with (first
            | (go_at_call 11; (with_reducible refine (CT.out _).mono ?_); rintro e w4 ⟨rfl, b4⟩; have z4 := zr.on b4; have f4 := rd_on fr b4; have rk4 := rd_on rk b4; have rn4 := rr.on b4)
            | (go_at_call 8; (with_reducible refine (CP.out _).mono ?_); rintro e w5 ⟨rfl, b5⟩; have z5 := z4.on b5; have f5 := rd_on f4 b5; have rk5 := rd_on rk4 b5; have rn5 := rn4.on b5; have g5 := rd_new w5 _ 29 v rfl; have s5 := rd_lt rk5; rw [blk_add] at s5)
            | (go_at_call 18; (with_reducible refine (CN.out _).mono ?_); rintro e w6 ⟨rfl, b6⟩; have z6 := (z5.alloc _).on b6; have f6 := rd_on (rd_on f5 (below_alloc_ _ _)) b6; have rn6 := (rn5.alloc _).on b6; have g6 := rd_on g5 b6))
          have z7 := z6.alloc (.cells (nc q) 29)
          have f7 := rd_on f6 (below_alloc_ _ (.cells (nc q) 29))
          have g7 := rd_on g6 (below_alloc_ _ (.cells (nc q) 29))
          have rn7 := rn6.alloc (.cells (nc q) 29)
          have p7 := rd_new w6 _ 29 q rfl
          clear zr fr rk rr z4 f4 rk4 rn4 z5 f5 rk5 rn5 g5 s5 z6 f6 rn6 g6 b4 b5 b6 hadl
          obtain ⟨w7, hw7⟩ : ∃ w7, w6.alloc (.cells (nc q) 29) = w7 := ⟨_, rfl⟩
          rw [hw7] at z7 f7 g7 rn7 p7
          try rw [hw7]
          clear hw7
          obtain ⟨ad', e', hadl, rk⟩ := rn7.rd hv
          injection e' with e'
          subst e'
          have sf := rd_lt f7
          have sg := rd_lt g7
          have sp := rd_lt p7
          simp only at sf sg sp
          cases h with
          | true =>
            have hlt2 : k + 1 < n + 1 := of_decide_eq_true E1.out.symm
            have i5 : (k : Int) + 1 < (n : Int) + 1 := by omega
            obtain ⟨ad', e', _, rq⟩ := rn7.rd (E2.out rfl)
            injection e' with e'
            subst e'
            refine wp_region_ext (by kernel_rfl) (by kernel_rfl) ?_
            repeat (go_big_quiet_step ((first
              | (go_at_call 25; exact calls_ext (CB.out _))
              | (go_at_call 24; exact calls_ext (CM.out _)))))
            refine wpQuiet_nil ?_
            intro w8 hw8
            have b8 := ext_to hw8
            clear hw8
            have z8 := z7.on b8
            have f8 := rd_on f7 b8
            have r8 := rn7.on b8
            clear z7 f7 g7 rn7 p7 rk rq b8
            go_wp2
            go_roundw
            case rel => exact ⟨k + 1, by omega, by go_num, f8, r8, z8⟩
            case measure => simp [intOf]; omega
          | false =>
            have hlt2 : ¬ (k + 1 < n + 1) := of_decide_eq_false E1.out.symm
            have i5 : ¬ ((k : Int) + 1 < (n : Int) + 1) := by omega
            refine wp_region_ext (by kernel_rfl) (by kernel_rfl) ?_
            repeat (go_big_quiet_step ((first
              | (go_at_call 25; exact calls_ext (CB.out _))
              | (go_at_call 24; exact calls_ext (CM.out _)))))
            refine wpQuiet_nil ?_
            intro w8 hw8
            have b8 := ext_to hw8
            clear hw8
            have z8 := z7.on b8
            have f8 := rd_on f7 b8
            have r8 := rn7.on b8
            clear z7 f7 g7 rn7 p7 rk b8
            go_wp2
            go_roundw
            case rel => exact ⟨k + 1, by omega, by go_num, f8, r8, z8⟩
            case measure => simp [intOf]; omega
        · have i2 : ¬ ((k : Int) < (n : Int) + 1) := by omega
          go_wp2_with (first
            | (go_at_call 9; (with_reducible refine (cK.out _).mono ?_); rintro e w4 ⟨rfl, b4⟩; have z4 := zr.on b4))
          go_ret
          exact ⟨rfl, z4.below⟩
end Go.Proofs.YtgbnaammphilhaaDoor
