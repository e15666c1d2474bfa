/-
  A nil chain's Put; does a chain hold just these; a chain of those that may be put.
-/
import Derived.Test.YtcnbdfobhablbaaChn
set_option linter.unusedVariables false
set_option linter.unusedSimpArgs false
set_option maxRecDepth 100000
namespace Go.Proofs.Ytcnbdfobhablbaa
open Go.RowKit
attribute [local go_sem ↓] Go.wp_at_zero Go.wp_at_succ ld_v lv_v st_v ne_v bd_v bs_v ld_w lv_w st_w ne_w bd_w bs_w ld_r ld_d lv_r lv_d st_r st_d ne_r eq_r ne_d bd_r bd_d
attribute [local go_sem] run_ldv run_lvv run_stv run_nev run_bdv_z run_bdv_d run_bdv_r run_bsv1 run_bsv0 run_ldw run_lvw run_stw run_new run_bdw_3 run_bsw1 run_bsw0 run_ldr run_ldd run_lvr run_lvd run_str run_std run_ner run_eqr run_ned run_bdr0 run_bdd0 run_bdr1 run_bdd1 run_bdd9 Shp.rd_new Shp.rd_old Shp.rd_drew Shp.rd_drewN Shp.rd_set Shp.tn_new Shp.tn_old Shp.tn_drew Shp.tn_drewN setRow_alloc vv_0 vv_1 wv_0 wv_1 run_fdv0 run_fdv1 run_stf Shp.rd_extk cell_ext
theorem put_nil (B : Option Addr) (m d : Nat) (w : World) : Calls Try.prog 13 #[.pointer none, .slice B m d] w fun e w' => e = .returned (.tuple #[.int .i64 0, .int .i64 9]) ∧ w' = w := by
  go_enter Try.func13, Try.ntmps13
  go_wp2
  go_ret2
  exact ⟨rfl, rfl⟩
theorem D.liv_nil : D.liv [] = false := rfl
theorem D.liv_at {l : List D.Vn} {v : D.Vn} (h : l[l.length - 1]? = some v) : D.liv l = !v.d := by rw [D.liv, List.getLast?_eq_getElem?, h]
set_option maxHeartbeats 8000000 in
theorem holds_any {w : World} {p A B : Option Addr} {n c d : Nat} {l : List D.Vn} (h : Al w p A n c l) (hw : ∀ v ∈ l, v.wf) (hn : n ≤ 1000) (hr : DR w B n l) :
    Calls Try.prog 17 #[.pointer p, .slice B n d] w fun e w' => e = .returned (.bool true) ∧ Below w.heap.size w w' := by
  have hlen : Kept (l.length = n) := ⟨hr.row.len⟩
  have CLi := Lib.hid (list_any h)
  have CLe := Lib.hid (fun (W : World) (hb : Below w.heap.size w W) => len_any (h.on hb))
  have CNe := Lib.hid (fun (W : World) (hb : Below w.heap.size w W) => newest_any (h.on hb) hw)
  have CLv := Lib.hid (fun (W : World) (hb : Below w.heap.size w W) => live_any (h.on hb) hw)
  have CDn := Lib.hid (fun (W : World) (hb : Below w.heap.size w W) => dnewest_any (c := d) (hr.on hb).row (by omega))
  have HW := Lib.hid hw
  have HR := Lib.hid hr
  have hdv : (n = 0 ∧ D.liv l = false) ∨ ∃ k v, n = k + 1 ∧ l[k]? = some v ∧ D.liv l = !v.d := by
    rcases Nat.eq_zero_or_pos n with h0 | h0
    · left
      have : l = [] := List.eq_nil_of_length_eq_zero (by have := hlen.out; omega)
      subst this
      exact ⟨h0, rfl⟩
    · right
      obtain ⟨v, hv⟩ : ∃ v, l[n - 1]? = some v := ⟨_, List.getElem?_eq_getElem (by have := hlen.out; omega)⟩
      exact ⟨n - 1, v, by omega, hv, D.liv_at (by rw [hlen.out]; exact hv)⟩
  clear h hr hw
  go_enter Try.func17, Try.ntmps17
  go_wp2_with fail
  refine CLi.out.mono ?_
  rintro e w1 ⟨B1, d1, rfl, ho1, hb1⟩
  rw [hlen.out] at ho1 ⊢
  have HO1 := Lib.hid (ow_vrow ho1)
  have HB1 := Lib.hid hb1
  clear ho1 hb1 CLi
  have ARMS : True := trivial
  rcases hdv with ⟨h0, hl0⟩ | ⟨k, v, hk, hv, hlv⟩
  · rw [hl0] at CLv
    subst h0
    go_wp2_with (first
      | (go_at_call 22; (refine (CLe.out w1 HB1.out).mono ?_); rintro e w2 ⟨rfl, b2⟩; have HB2 := Lib.hid (below_up HB1.out HB1.out.size b2); have HC2 := Lib.hid b2; clear b2)
      | (go_at_call 20; (refine (CNe.out w2 HB2.out).mono ?_); rintro e w3 ⟨rfl, b3⟩; have HB3 := Lib.hid (below_up HB2.out HB2.out.size b3); have HC3 := Lib.hid (below_up HC2.out HC2.out.size b3); clear b3)
      | (go_at_call 28; (refine (CDn.out w3 HB3.out).mono ?_); rintro e w4 ⟨rfl, rfl⟩)
      | (go_at_call 21; (refine (CLv.out w4 HB3.out).mono ?_); rintro e w5 ⟨rfl, b5⟩; have HB5 := Lib.hid (below_up HB3.out HB3.out.size b5); have HC5 := Lib.hid (below_up HC3.out HC3.out.size b5); clear b5))
    go_loopw [6] (fun x wx => ∃ i : Nat, i ≤ 0 ∧ x = .int .i64 i ∧ Below w1.heap.size w1 wx) (fun x _ => 0 - (intOf x).toNat)
    case atStart => exact ⟨0, Nat.zero_le _, rfl, HC5.out⟩
    case round =>
      obtain ⟨i, hi, rfl, hb6⟩ := hrel
      by_cases hlt : i < 0
      · exact absurd hlt (by omega)
      · go_wp2
        go_ret
        exact ⟨rfl, below_up HB1.out HB1.out.size hb6⟩
  · subst hk
    obtain ⟨ad, hAe, hal, hrd⟩ := (HR.out.on HB1.out).row.rd hv
    subst hAe
    have HQ := Lib.hid (Go.Proofs.Ytcnbdfobhablbaa.wr hrd)
    have i1 : (0 : Int) ≤ (k : Int) := by omega
    have i2 : (k : Int) < (k : Int) + 1 := by omega
    have i3 : (0 : Int) < (k : Int) + 1 := by omega
    clear hrd hv
    cases hd : v.d with
    | true =>
      rw [hlv, hd] at CLv
      go_wp2_with (first
        | (go_at_call 22; (refine (CLe.out w1 HB1.out).mono ?_); rintro e w2 ⟨rfl, b2⟩; have HB2 := Lib.hid (below_up HB1.out HB1.out.size b2); have HC2 := Lib.hid b2; clear b2)
        | (go_at_call 20; (refine (CNe.out w2 HB2.out).mono ?_); rintro e w3 ⟨rfl, b3⟩; have HB3 := Lib.hid (below_up HB2.out HB2.out.size b3); have HC3 := Lib.hid (below_up HC2.out HC2.out.size b3); clear b3)
        | (go_at_call 28; (refine (CDn.out w3 HB3.out).mono ?_); rintro e w4 ⟨rfl, rfl⟩)
        | (go_at_call 21; (refine (CLv.out w4 HB3.out).mono ?_); rintro e w5 ⟨rfl, b5⟩; have HB5 := Lib.hid (below_up HB3.out HB3.out.size b5); have HC5 := Lib.hid (below_up HC3.out HC3.out.size b5); have q1 := cell_kept_ HC5.out HQ.out.2.1; clear b5))
      go_loopw [6] (fun x wx => ∃ i : Nat, i ≤ (k + 1) ∧ x = .int .i64 i ∧ Below w1.heap.size w1 wx) (fun x _ => (k + 1) - (intOf x).toNat)
      case atStart => exact ⟨0, Nat.zero_le _, rfl, HC5.out⟩
      case round =>
        obtain ⟨i, hi, rfl, hb6⟩ := hrel
        by_cases hlt : i < (k + 1)
        · obtain ⟨y, hy⟩ : ∃ y, l[i]? = some y := ⟨_, List.getElem?_eq_getElem (by have := hlen.out; omega)⟩
          obtain ⟨a1, hA1, hal1, hr1⟩ := (HO1.out.on hb6).rd hy
          obtain ⟨a2, hA2, hal2, hr2⟩ := ((HR.out.on HB1.out).on hb6).row.rd hy
          subst hA1
          have e2 : a2 = ad := (Option.some.inj hA2).symm
          subst e2
          have hr1 : vS.rd wr (a1.add (i * 11)) = some y := hr1
          have hr2 : wS.rd wr (a2.add (i * 11)) = some y := hr2
          have l1 := Shp.rd_lt hr1
          have l2 := Shp.rd_lt hr2
          have j0 : (0 : Int) ≤ (i : Int) := by omega
          have j1 : (i : Int) < (((k + 1) : Nat) : Int) := by omega
          have hyw := HW.out y (List.mem_of_getElem? hy)
          have CO := Lib.hid (fun o : On => vof_any y (ext wr o) hyw)
          clear hy hyw
          go_wp2_with fail
          refine wp_region_ext (by kernel_rfl) (by kernel_rfl) ?_
          repeat (go_big_quiet_step ((go_at_call 12; with_reducible exact calls_ext (CO.out _))))
          refine wpQuiet_nil ?_
          intro w6 hw6
          have b6 := ext_to hw6
          clear hw6 l1 l2
          go_wp2
          go_roundw
          case rel => exact ⟨i + 1, by omega, by go_num, below_up hb6 hb6.size b6⟩
          case measure => simp [intOf]; omega
        · go_wp2
          go_ret
          exact ⟨rfl, below_up HB1.out HB1.out.size hb6⟩
    | false =>
      rw [hlv, hd] at CLv
      go_wp2_with (first
        | (go_at_call 22; (refine (CLe.out w1 HB1.out).mono ?_); rintro e w2 ⟨rfl, b2⟩; have HB2 := Lib.hid (below_up HB1.out HB1.out.size b2); have HC2 := Lib.hid b2; clear b2)
        | (go_at_call 20; (refine (CNe.out w2 HB2.out).mono ?_); rintro e w3 ⟨rfl, b3⟩; have HB3 := Lib.hid (below_up HB2.out HB2.out.size b3); have HC3 := Lib.hid (below_up HC2.out HC2.out.size b3); clear b3)
        | (go_at_call 28; (refine (CDn.out w3 HB3.out).mono ?_); rintro e w4 ⟨rfl, rfl⟩)
        | (go_at_call 21; (refine (CLv.out w4 HB3.out).mono ?_); rintro e w5 ⟨rfl, b5⟩; have HB5 := Lib.hid (below_up HB3.out HB3.out.size b5); have HC5 := Lib.hid (below_up HC3.out HC3.out.size b5); have q1 := cell_kept_ HC5.out HQ.out.2.1; clear b5))
      go_loopw [6] (fun x wx => ∃ i : Nat, i ≤ (k + 1) ∧ x = .int .i64 i ∧ Below w1.heap.size w1 wx) (fun x _ => (k + 1) - (intOf x).toNat)
      case atStart => exact ⟨0, Nat.zero_le _, rfl, HC5.out⟩
      case round =>
        obtain ⟨i, hi, rfl, hb6⟩ := hrel
        by_cases hlt : i < (k + 1)
        · obtain ⟨y, hy⟩ : ∃ y, l[i]? = some y := ⟨_, List.getElem?_eq_getElem (by have := hlen.out; omega)⟩
          obtain ⟨a1, hA1, hal1, hr1⟩ := (HO1.out.on hb6).rd hy
          obtain ⟨a2, hA2, hal2, hr2⟩ := ((HR.out.on HB1.out).on hb6).row.rd hy
          subst hA1
          have e2 : a2 = ad := (Option.some.inj hA2).symm
          subst e2
          have hr1 : vS.rd wr (a1.add (i * 11)) = some y := hr1
          have hr2 : wS.rd wr (a2.add (i * 11)) = some y := hr2
          have l1 := Shp.rd_lt hr1
          have l2 := Shp.rd_lt hr2
          have j0 : (0 : Int) ≤ (i : Int) := by omega
          have j1 : (i : Int) < (((k + 1) : Nat) : Int) := by omega
          have hyw := HW.out y (List.mem_of_getElem? hy)
          have CO := Lib.hid (fun o : On => vof_any y (ext wr o) hyw)
          clear hy hyw
          go_wp2_with fail
          refine wp_region_ext (by kernel_rfl) (by kernel_rfl) ?_
          repeat (go_big_quiet_step ((go_at_call 12; with_reducible exact calls_ext (CO.out _))))
          refine wpQuiet_nil ?_
          intro w6 hw6
          have b6 := ext_to hw6
          clear hw6 l1 l2
          go_wp2
          go_roundw
          case rel => exact ⟨i + 1, by omega, by go_num, below_up hb6 hb6.size b6⟩
          case measure => simp [intOf]; omega
        · go_wp2
          go_ret
          exact ⟨rfl, below_up HB1.out HB1.out.size hb6⟩
end Go.Proofs.Ytcnbdfobhablbaa
