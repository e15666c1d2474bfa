/-
  The document's versions: the newest one's time, what is seen, one more.
-/
import Derived.Test.YtcnbdfobhablbaaChb
import Derived.Deep.Slices
set_option linter.unusedVariables false
set_option linter.unusedSimpArgs false
set_option maxRecDepth 100000
namespace Go.Proofs.Ytcnbdfobhablbaa
open Go.RowKit
attribute [local go_sem ↓] Go.wp_at_zero Go.wp_at_succ ld_v lv_v st_v ne_v bd_v bs_v ld_w lv_w st_w ne_w bd_w bs_w ld_r ld_d lv_r lv_d st_r st_d ne_r eq_r ne_d bd_r bd_d
attribute [local go_sem] run_ldv run_lvv run_stv run_nev run_bdv_z run_bdv_d run_bdv_r run_bsv1 run_bsv0 run_ldw run_lvw run_stw run_new run_bdw_3 run_bsw1 run_bsw0 run_ldr run_ldd run_lvr run_lvd run_str run_std run_ner run_eqr run_ned run_bdr0 run_bdd0 run_bdr1 run_bdd1 run_bdd9 Shp.rd_new Shp.rd_old Shp.rd_drew Shp.rd_drewN Shp.rd_set Shp.tn_new Shp.tn_old Shp.tn_drew Shp.tn_drewN setRow_alloc vv_0 vv_1 wv_0 wv_1 run_fdv0 run_fdv1 Shp.rd_extk cell_ext
/-- The document's row, in blocks of its own type. -/
structure DR (w : World) (A : Option Addr) (n : Nat) (l : List D.Vn) : Prop where
  row : Shp.Row wS w A n l
  ty : ∀ ad, A = some ad → 0 < n → ∃ cs, w.heap[ad.block]? = some (Obj.cells cs 44 (0, 0))
theorem DR.nil (w : World) (A : Option Addr) : DR w A 0 [] := ⟨Shp.Row.nil _ _, fun _ _ h => absurd h (by omega)⟩
theorem DR.only {S : Nat → Prop} {w w' : World} {A : Option Addr} {n : Nat} {l : List D.Vn} (h : DR w A n l) (k : Only S w w') (hS : ∀ i, S i → ∀ cs, w.heap[i]? ≠ some (Obj.cells cs 44 (0, 0))) : DR w' A n l := by
  rcases Nat.eq_zero_or_pos n with h0 | h0
  · subst h0
    have : l = [] := List.eq_nil_of_length_eq_zero h.row.len
    subst this
    exact DR.nil _ _
  · have key : ∀ ad, A = some ad → w'.heap[ad.block]? = w.heap[ad.block]? := fun ad e => by
      obtain ⟨cs, hcs⟩ := h.ty ad e h0
      exact k.block _ (Array.getElem?_eq_some_iff.1 hcs).1 fun hs => hS _ hs cs hcs
    exact ⟨h.row.kept k.size key, fun ad e h1 => by
      obtain ⟨cs, hcs⟩ := h.ty ad e h1
      exact ⟨cs, (key ad e).trans hcs⟩⟩
theorem DR.on {w w' : World} {A : Option Addr} {n : Nat} {l : List D.Vn} (h : DR w A n l) (hb : Below w.heap.size w w') : DR w' A n l := h.only (S := fun _ => False) (only_below hb) fun _ hf => hf.elim
theorem DR.of {base c : Nat} {w : World} {A : Option Addr} {n : Nat} {l : List D.Vn} (h : Ow 44 11 base w A n c (wS.rcs l)) : DR w A n l := ⟨ow_wrow h, fun ad e _ => by
  subst e
  rcases h.row.2 with ⟨e, _⟩ | ⟨g2, cap, cur, e, _, hh, _⟩
  · cases e
  · injection e with e1 e2 e3
    injection e1 with e1
    subst e1
    exact ⟨_, hh⟩⟩
section
variable {w : World} {A : Option Addr} {n c : Nat} {l : List D.Vn}
theorem dnewest_any (hr : Shp.Row wS w A n l) (hn : n ≤ 1000000) : Calls Try.prog 28 #[.slice A n c] w fun e w' => e = .returned (.int .u64 (D.nwt l : Nat)) ∧ w' = w := by
  have hlen := hr.len
  by_cases h0 : n = 0
  · subst h0
    have : l = [] := List.eq_nil_of_length_eq_zero hlen
    subst this
    clear hr
    go_enter Try.func28, Try.ntmps28
    go_wp2
    go_ret
    exact ⟨rfl, rfl⟩
  · obtain ⟨v, hv⟩ : ∃ v, l[n - 1]? = some v := ⟨_, List.getElem?_eq_getElem (by omega)⟩
    have HE := Lib.hid (D.nwt_at (l := l) (v := v) (by rw [hlen]; exact hv))
    obtain ⟨k, rfl⟩ : ∃ k, n = k + 1 := ⟨n - 1, by omega⟩
    rw [Nat.add_sub_cancel] at hv
    obtain ⟨ad, rfl, hlt, hrd⟩ := hr.rd hv
    obtain ⟨q0, -, -⟩ := Go.Proofs.Ytcnbdfobhablbaa.wr hrd
    have h1 : ¬ ((k : Int) + 1 = 0) := by omega
    have i1 : (0 : Int) ≤ (k : Int) := by omega
    have i2 : (k : Int) < (k : Int) + 1 := by omega
    clear hr hrd h0 hv hlen
    go_enter Try.func28, Try.ntmps28
    go_wp2
    go_ret
    exact ⟨by rw [HE.out]; rfl, rfl⟩
set_option maxHeartbeats 2000000 in
theorem dseen_any (hr : Shp.Row wS w A n l) (hs : D.Srt l) (hn : n ≤ 1000000) (t : Nat) : Calls Try.prog 24 #[.slice A n c, .int .u64 (t : Nat)] w fun e w' => e = .returned (.int .i64 ((D.cnt l t : Int) - 1)) ∧ w' = w := by
  have hlen := hr.len
  have HS := Lib.hid hs
  have HR := Lib.hid hr
  have hcl := D.cnt_le l t
  clear hs hr
  go_enter Try.func24, Try.ntmps24
  go_wp2_with fail
  go_loopw [5, 6] (fun x y wx => ∃ i : Nat, i ≤ n ∧ y = .int .i64 i ∧ (∃ z : Int, x = .int .i64 z ∧ Kept (z = (min i (D.cnt l t) : Int) - 1)) ∧ wx = w) (fun _ y _ => n - (intOf y).toNat)
  case atStart => exact ⟨0, Nat.zero_le _, rfl, ⟨-1, rfl, ⟨by omega⟩⟩, rfl⟩
  case round =>
    obtain ⟨i, hi, rfl, ⟨z, rfl, HZ⟩, rfl⟩ := hrel
    by_cases hlt : i < n
    · obtain ⟨v, hv⟩ : ∃ v, l[i]? = some v := ⟨_, List.getElem?_eq_getElem (by omega)⟩
      have hc := HS.out.cnt_lt (t := t) hv
      obtain ⟨ad, rfl, hal, hrd⟩ := HR.out.rd hv
      obtain ⟨q0, -, -⟩ := Go.Proofs.Ytcnbdfobhablbaa.wr hrd
      have i0 : (0 : Int) ≤ (i : Int) := by omega
      have i1 : (i : Int) < (n : Int) := by omega
      clear hrd hv
      by_cases ht : v.a ≤ t
      · have hc2 := Lib.hid (hc.1 ht)
        have hti : (v.a : Int) ≤ (t : Int) := by omega
        clear hc ht hcl
        go_wp2
        go_roundw
        case rel => exact ⟨i + 1, by omega, by go_num, ⟨_, rfl, ⟨by have := hc2.out; omega⟩⟩, trivial⟩
        case measure => simp [intOf]; omega
      · have hc2 : Hid (¬ (i < D.cnt l t)) := fun h => ht (hc.2 h)
        have hti : ¬ ((v.a : Int) ≤ (t : Int)) := by omega
        clear hc ht hcl
        go_wp2
        go_roundw
        case rel => exact ⟨i + 1, by omega, by go_num, ⟨_, rfl, ⟨by have := hc2.out; have := HZ.out; omega⟩⟩, trivial⟩
        case measure => simp [intOf]; omega
    · have he : z = (D.cnt l t : Int) - 1 := by have := HZ.out; omega
      go_wp2
      go_ret
      exact ⟨by rw [he]; rfl, rfl⟩
set_option maxHeartbeats 2000000 in
theorem dat_any (hr : Shp.Row wS w A n l) (hs : D.Srt l) (hn : n ≤ 1000000) (t : Nat) : Calls Try.prog 15 #[.slice A n c, .int .u64 (t : Nat)] w fun e w' => e = .returned (.tuple #[.agg (dS.v (D.seen l t).r), .bool (!(D.seen l t).d)]) ∧ Below w.heap.size w w' := by
  have z0 := below_alloc_ w (.cells #[.int .i64 0, .int .i64 0, .int .i64 0, .int .i64 0, .int .i64 0, .bool false, .int .u64 0, .int .u64 0, .string ⟨#[]⟩] 42)
  have f0 : Shp.tn 9 (w.alloc (.cells #[.int .i64 0, .int .i64 0, .int .i64 0, .int .i64 0, .int .i64 0, .bool false, .int .u64 0, .int .u64 0, .string ⟨#[]⟩] 42)) w.heap.size = true := Shp.tn_new _ _ _ _ _ rfl rfl
  obtain ⟨W0, hW0⟩ : ∃ W0, w.alloc (.cells #[.int .i64 0, .int .i64 0, .int .i64 0, .int .i64 0, .int .i64 0, .bool false, .int .u64 0, .int .u64 0, .string ⟨#[]⟩] 42) = W0 := ⟨_, rfl⟩
  rw [hW0] at z0 f0
  have r0 := hr.on z0
  have CS := Lib.hid (dseen_any (c := c) r0 hs hn t)
  have hcl := D.cnt_le l t
  have hlen := hr.len
  have rZ : dS.rd (W0.setRow w.heap.size (dS.v D.zRc)) ⟨w.heap.size, 0, none⟩ = some D.zRc := Shp.rd_set (S := dS) _ _ _ f0
  by_cases h0 : D.cnt l t = 0
  · have HE := Lib.hid (D.seen_0 h0)
    rw [h0] at CS
    clear hr r0 hcl
    go_enter Try.func15, Try.ntmps15
    go_wp2_with (go_at_call 24; (with_reducible refine CS.out.mono ?_); rintro e w1 ⟨rfl, rfl⟩)
    refine bodyPost_ret (v := .tuple #[.agg (dS.v D.zRc), .bool false]) (by rw [results_cell_tmp rfl]; simp [asAddr, Result.andThen, lvd_of rZ]) rfl ⟨by rw [HE.out]; rfl, bel_setRow z0 (Nat.le_refl _) _⟩
  · obtain ⟨v, hv, he, hm⟩ := D.seen_mem h0
    have HE := Lib.hid he
    have HM := Lib.hid (hs.ok v hm)
    obtain ⟨k, hk⟩ : ∃ k, D.cnt l t = k + 1 := ⟨D.cnt l t - 1, by omega⟩
    rw [hk, Nat.add_sub_cancel] at hv
    obtain ⟨ad, rfl, hlt, hrd⟩ := r0.rd hv
    obtain ⟨-, q1, q2⟩ := Go.Proofs.Ytcnbdfobhablbaa.wr hrd
    rw [hk, show ((k + 1 : Nat) : Int) - 1 = (k : Int) by omega] at CS
    have i1 : (0 : Int) ≤ (k : Int) := by omega
    have i2 : (k : Int) < (n : Int) := by omega
    have i3 : ¬ ((k : Int) < 0) := by omega
    clear hr r0 hcl hrd he hv h0 hk
    cases hd : v.d with
    | true =>
      have hz := D.dead_rec HM.out hd
      rw [hd] at q1
      go_enter Try.func15, Try.ntmps15
      go_wp2_with (go_at_call 24; (with_reducible refine CS.out.mono ?_); rintro e w1 ⟨rfl, rfl⟩)
      refine bodyPost_ret (v := .tuple #[.agg (dS.v D.zRc), .bool false]) (by rw [results_cell_tmp rfl]; simp [asAddr, Result.andThen, lvd_of rZ]) rfl ⟨by rw [HE.out, hz, hd]; rfl, bel_setRow z0 (Nat.le_refl _) _⟩
    | false =>
      rw [hd] at q1
      have rV : dS.rd (W0.setRow w.heap.size (dS.v v.r)) ⟨w.heap.size, 0, none⟩ = some v.r := Shp.rd_set (S := dS) _ _ _ f0
      go_enter Try.func15, Try.ntmps15
      go_wp2_with (go_at_call 24; (with_reducible refine CS.out.mono ?_); rintro e w1 ⟨rfl, rfl⟩)
      refine bodyPost_ret (v := .tuple #[.agg (dS.v v.r), .bool true]) (by rw [results_cell_tmp rfl]; simp [asAddr, Result.andThen, lvd_of rV]) rfl ⟨by rw [HE.out, hd]; rfl, bel_setRow z0 (Nat.le_refl _) _⟩
end
end Go.Proofs.Ytcnbdfobhablbaa
