/-
  At each pin, and from the newest time on, the same is seen behind trimming: the law.
-/
import Derived.Test.YtcnbdfobhablbaaChq
import Derived.Test.YtcnbdfobhablbaaCic
set_option linter.unusedVariables false
set_option linter.unusedSimpArgs false
set_option maxRecDepth 100000
namespace Go.Proofs.Ytcnbdfobhablbaa
open Go.RowKit
attribute [local go_sem ↓] Go.wp_at_zero Go.wp_at_succ ld_v lv_v st_v ne_v bd_v bs_v ld_w lv_w st_w ne_w bd_w bs_w ld_r ld_d lv_r lv_d st_r st_d ne_r eq_r ne_d bd_r bd_d
attribute [local go_sem] run_ldv run_lvv run_stv run_nev run_bdv_z run_bdv_d run_bdv_r run_bsv1 run_bsv0 run_ldw run_lvw run_stw run_new run_bdw_3 run_bsw1 run_bsw0 run_ldr run_ldd run_lvr run_lvd run_str run_std run_ner run_eqr run_ned run_bdr0 run_bdd0 run_bdr1 run_bdd1 run_bdd9 Shp.rd_new Shp.rd_old Shp.rd_drew Shp.rd_drewN Shp.rd_set Shp.tn_new Shp.tn_old Shp.tn_drew Shp.tn_drewN setRow_alloc vv_0 vv_1 wv_0 wv_1 run_fdv0 run_fdv1 run_stf Shp.rd_extk cell_ext
theorem upto_run_p (A : Option Addr) (n c k : Nat) (hk : k ≤ c) : ∀ W, (Instr.slice 33 (.slice A n c) none (some (.int .i64 (k : Int))) none).run Try.prog W = .ok (.slice A k c) W := by
  intro W
  rw [run_slice_h W 33 A n c (by kernel_rfl) .i64 k (by omega) (by omega)]
  have : ∀ a : Addr, a.add 0 = a := add_zero_
  simp [Result.andThen, sliced, go_sem]
theorem row_take {w : World} {A : Option Addr} {n k : Nat} {ps : List Nat} (h : Row w A n (wds ps)) (hk : k ≤ n) : Row w A k (wds (ps.take k)) := by
  have hl := h.len
  rw [wds_len] at hl
  refine ⟨by rw [wds_len, List.length_take]; omega, fun h0 => ?_⟩
  obtain ⟨ad, e, hb, hc⟩ := h.to (by omega)
  refine ⟨ad, e, hb, fun j u hu => hc j u ?_⟩
  have e1 : wds (ps.take k) = (wds ps).take k := by simp [wds, List.map_take]
  rw [e1] at hu
  exact (List.getElem?_eq_some_iff.2 (by
    obtain ⟨h1, h2⟩ := List.getElem?_eq_some_iff.1 hu
    rw [List.length_take] at h1
    exact ⟨by omega, by rw [← h2, List.getElem_take]⟩))
/-- Two chains that the program has made of the same, the first one the older one; the first one is trimmed. -/
theorem two_trim {w w1 w2 w3 : World} {g A1 A2 A3 : _} {c1 c2 c3 : Nat} {l t : List D.Vn} (hg : w.heap.size = g) (h1 : Cn g w1 g A1 c1 l) (b1 : Below g w w1) (h2 : Cn w1.heap.size w2 w1.heap.size A2 c2 l) (b2 : Below w1.heap.size w1 w2) (h3 : Cn g w3 g A3 c3 t) (o3 : Only (fun i => i = g) w2 w3) :
    Cn w1.heap.size w3 w1.heap.size A2 c2 l ∧ Below g w w3 := by
  have hg1 : g < w1.heap.size := h1.blk.lt
  refine ⟨h2.only o3 (by omega) (fun i hi h => ?_), ?_⟩
  · have := (ow_at h2.own hi).2.1; omega
  · have hb : Below g w w2 := below_up b1 (by omega) b2
    exact hb.trans (o3.below (by have := b2.size; omega) (fun i hi => by omega))
set_option maxHeartbeats 16000000 in
theorem law_sees {w : World} {A : Option Addr} {n c : Nat} {vs : List D.Vn} {B : Option Addr} {n2 cb : Nat} {ps0 : List Nat} {lt : Nat} (hr : Shp.Row vS w A n vs) (hw : ∀ v ∈ vs, v.wf ∧ v.r.t.size ≤ maxLen) (hn : n ≤ maxLen) (hr2 : Row w B n2 (wds ps0)) (hw2 : ∀ p ∈ ps0, p < 18446744073709551616) (hc2 : n2 ≤ cb) (hlt : lt < 18446744073709551616) :
    Calls Try.prog 5 #[.slice A n c, .slice B n2 cb, .int .u64 (lt : Nat)] w fun e w' => e = .returned (.bool true) ∧ Below w.heap.size w w' := by
  obtain ⟨m, hm1, hm2, hmin⟩ := min_run n2 8 8 rfl
  have hcut := upto_run_p B n2 cb m (by omega)
  have hrp := row_take hr2 hm1
  have hwp : ∀ p ∈ ps0.take m, p < 18446744073709551616 := fun p hp => hw2 p (List.mem_of_mem_take hp)
  obtain ⟨ps, hps⟩ : ∃ ps, ps0.take m = ps := ⟨_, rfl⟩
  rw [hps] at hrp hwp
  obtain ⟨l, hl⟩ : ∃ l, D.pl (vs.take 20) = l := ⟨_, rfl⟩
  obtain ⟨g, hg⟩ : ∃ g, w.heap.size = g := ⟨_, rfl⟩
  have CP : Hid (∀ W, Below g w W → Calls Try.prog 19 #[.slice A n c] W fun e w' => e = .returned (.pointer (some ⟨W.heap.size, 0, none⟩)) ∧ (∃ (A' : Option Addr) (c' : Nat), Cn W.heap.size w' W.heap.size A' c' l) ∧ Below W.heap.size W w') := fun W hW => by
    have := lput_any (c := c) (hr.on (by rw [hg]; exact hW)) hw hn
    rw [hl] at this
    exact this
  have CK := Lib.hid (fun W => known_any W)
  have HRP := Lib.hid hrp
  have HWP := Lib.hid hwp
  have hpl : Kept (ps.length = m) := ⟨by have := hrp.len; rwa [wds_len] at this⟩
  clear hr hw hn hr2 hw2 hc2 hrp hwp hps hl
  go_enter Try.func5, Try.ntmps5
  go_wp2_with fail
  refine (CP.out w (Below.refl _ _)).mono ?_
  rintro e w1 ⟨rfl, ⟨A1, c1, hC1⟩, b1⟩
  rw [hg] at hC1 b1
  try rw [hg]
  have HC1 := Lib.hid hC1
  have HB1 := Lib.hid b1
  clear hC1 b1
  go_wp2_with fail
  refine (CP.out w1 HB1.out).mono ?_
  rintro e w2 ⟨rfl, ⟨A2, c2, hC2⟩, b2⟩
  have HC2 := Lib.hid hC2
  have HB2 := Lib.hid b2
  obtain ⟨g2, hg2⟩ : ∃ g2, w1.heap.size = g2 := ⟨_, rfl⟩
  try rw [hg2]
  have HG2 := Lib.hid hg2
  have CT : Hid (Calls Try.prog 9 #[.pointer (some ⟨g, 0, none⟩), .slice B m cb] w2 fun e w' => e = .returned (.int .i64 ((l.length - (D.trm ps l).length : Nat))) ∧ ∃ A' c', Cn g w' g A' c' (D.trm ps l) ∧ Cn g2 w' g2 A2 c2 l ∧ Below g w w' ∧ Row w' B m (wds ps)) := Lib.hid (by
    have hb2 : Below g w w2 := below_up HB1.out (by have := HC1.out.blk.lt; omega) HB2.out
    refine (trim_any (HC1.out.on HB2.out) ps (HRP.out.on (by rw [hg]; exact hb2)) (by omega) (by have := HB1.out.size; have := HB2.out.size; have := HC1.out.blk.lt; omega)).mono ?_
    rintro e w3 ⟨rfl, A3, c3, h3, o3, -⟩
    obtain ⟨k1, k2⟩ := two_trim hg HC1.out HB1.out HC2.out HB2.out h3 o3
    rw [hg2] at k1
    exact ⟨rfl, A3, c3, h3, k1, k2, HRP.out.on (by rw [hg]; exact k2)⟩)
  clear hC2 b2 hg2
  go_wp2_with fail
  refine CT.out.mono ?_
  rintro e w3 ⟨rfl, A3, c3, hC3, hD3, hB3, hP3⟩
  have CA : Hid (∀ W, Below w3.heap.size w3 W → ∀ p, p ∈ ps ∨ D.nwt l ≤ p → Calls Try.prog 14 #[.pointer (some ⟨g, 0, none⟩), .int .u64 (p : Nat)] W fun e w' => e = .returned (.tuple #[.agg (rS.v (D.seen l p).r), .bool (!(D.seen l p).d)]) ∧ Below W.heap.size W w') := fun W hW p hp => by
    have := at_any (hC3.al.on hW) p
    rcases hp with hp | hp
    · rw [(D.trm_seen hD3.srt hp).1, (D.trm_seen hD3.srt hp).2] at this; exact this
    · rw [(D.trm_late hD3.srt ps hp).1, (D.trm_late hD3.srt ps hp).2] at this; exact this
  have CB : Hid (∀ W, Below w3.heap.size w3 W → ∀ p : Nat, Calls Try.prog 14 #[.pointer (some ⟨g2, 0, none⟩), .int .u64 (p : Nat)] W fun e w' => e = .returned (.tuple #[.agg (rS.v (D.seen l p).r), .bool (!(D.seen l p).d)]) ∧ Below W.heap.size W w') := fun W hW p => at_any (hD3.al.on hW) p
  obtain ⟨x, hx⟩ : ∃ x, D.nwt (D.trm ps l) = x := ⟨_, rfl⟩
  obtain ⟨y, hy⟩ : ∃ y, D.nwt l = y := ⟨_, rfl⟩
  obtain ⟨z, hz⟩ : ∃ z, D.liv l = z := ⟨_, rfl⟩
  have HY : y < 18446744073709551616 := by have := D.nwt_top hD3.wf; omega
  have CN : Hid (∀ W, Below w3.heap.size w3 W → Calls Try.prog 20 #[.pointer (some ⟨g, 0, none⟩)] W fun e w' => e = .returned (.int .u64 (x : Nat)) ∧ Below W.heap.size W w') := fun W hW => by
    have := newest_any (hC3.al.on hW) hC3.wf; rw [hx] at this; exact this
  have CM : Hid (∀ W, Below w3.heap.size w3 W → Calls Try.prog 20 #[.pointer (some ⟨g2, 0, none⟩)] W fun e w' => e = .returned (.int .u64 (y : Nat)) ∧ Below W.heap.size W w') := fun W hW => by
    have := newest_any (hD3.al.on hW) hD3.wf; rw [hy] at this; exact this
  have CL : Hid (∀ W, Below w3.heap.size w3 W → Calls Try.prog 21 #[.pointer (some ⟨g, 0, none⟩)] W fun e w' => e = .returned (.bool z) ∧ Below W.heap.size W w') := fun W hW => by
    have := live_any (hC3.al.on hW) hC3.wf; rw [D.trm_liv hD3.srt, hz] at this; exact this
  have CQ : Hid (∀ W, Below w3.heap.size w3 W → Calls Try.prog 21 #[.pointer (some ⟨g2, 0, none⟩)] W fun e w' => e = .returned (.bool z) ∧ Below W.heap.size W w') := fun W hW => by
    have := live_any (hD3.al.on hW) hD3.wf; rw [hz] at this; exact this
  have HA : Hid (∀ p ∈ ps, (p < x ↔ p < y)) := Lib.hid (by intro p hp; rw [← hx, ← hy]; exact D.trm_above hD3.srt hp)
  have HP3 := Lib.hid hP3
  have HB3 := Lib.hid hB3
  have HZ : Hid (D.nwt l = y) := Lib.hid hy
  clear hC3 hD3 hB3 hP3 hx hy hz CT CP
  go_wp2_with fail
  go_loopw [9] (fun s6 wx => ∃ i : Nat, i ≤ m ∧ s6 = .int .i64 i ∧ Hid (Below w3.heap.size w3 wx)) (fun s6 _ => m - (intOf s6).toNat)
  case atStart => exact ⟨0, Nat.zero_le _, rfl, Lib.hid (Below.refl _ _)⟩
  case round =>
    obtain ⟨i, him, rfl, HW3⟩ := hrel
    by_cases him2 : i < m
    · have j0 : (0 : Int) ≤ (i : Int) := by omega
      have j1 : (i : Int) < (m : Int) := by omega
      obtain ⟨p, hp⟩ : ∃ p, ps[i]? = some p := ⟨_, List.getElem?_eq_getElem (by have := hpl.out; omega)⟩
      have hpm := List.mem_of_getElem? hp
      have hpb := HWP.out p hpm
      obtain ⟨ad, hAe, hal, hcell⟩ := (HP3.out.on HW3.out).to (by omega)
      subst hAe
      have HAL : Hid (ad.block < w3.heap.size) := Lib.hid ((HP3.out.to (by omega)).elim fun ad2 h => by obtain ⟨h1, h2, _⟩ := h; injection h1 with h1; subst h1; exact h2)
      have q1 : wr.cell? (ad.add i) = some (.int .u64 (p : Nat)) := hcell i _ (by simp [wds, hp])
      have CA1 := Lib.hid (fun W hW => CA.out W hW p (.inl hpm))
      have CB1 := Lib.hid (fun W hW => CB.out W hW p)
      obtain ⟨v, hv⟩ : ∃ v, D.seen l p = v := ⟨_, rfl⟩
      rw [hv] at CA1 CB1
      have hab := HA.out p hpm
      clear hp hpm hcell hv
      rcases Nat.lt_or_ge p y with h2 | h2
      · have h1 : p < x := hab.2 h2
        have i1 : (p : Int) < (x : Int) := by omega
        have i2 : (p : Int) < (y : Int) := by omega
        clear hab
        go_wp2_with (first
          | (go_at_call 14; (with_reducible refine (CA1.out _ (HW3.out)).mono ?_); rintro e x0 ⟨rfl, b_⟩; have X0 := Lib.hid (below_up (HW3.out) (Below.size (HW3.out)) b_); have q2 := cell_kept_ b_ q1; have q2a := cell_kept_ (below_alloc_ x0 (.cells (rS.v v.r) 30)) q2; clear b_)
          | fail)
        go_wp2_with (first
          | (go_at_call 14; (with_reducible refine (CB1.out _ (X0.out.alloc X0.out.size _)).mono ?_); rintro e x1 ⟨rfl, b_⟩; have X1 := Lib.hid (below_up (X0.out.alloc X0.out.size _) (Below.size (X0.out.alloc X0.out.size _)) b_); have q3 := cell_kept_ b_ (cell_kept_ (below_alloc_ _ _) q2); have r1 : rS.rd x1 ⟨x0.heap.size, 0, none⟩ = some v.r := Shp.rd_on (Shp.rd_new _ _ _ _ rfl) b_; clear b_)
          | fail)
        have l1 : x0.heap.size < x1.heap.size := Shp.rd_lt r1
        have r2 : rS.rd (x1.alloc (.cells (rS.v v.r) 30)) ⟨x0.heap.size, 0, none⟩ = some v.r := Shp.rd_on r1 (below_alloc_ _ _)
        have s2 : rS.rd (x1.alloc (.cells (rS.v v.r) 30)) ⟨x1.heap.size, 0, none⟩ = some v.r := Shp.rd_new _ _ _ _ rfl
        have q4 := cell_kept_ (below_alloc_ x1 (.cells (rS.v v.r) 30)) q3
        have B4 : Hid (Below w3.heap.size w3 (x1.alloc (.cells (rS.v v.r) 30))) := Lib.hid (X1.out.alloc X1.out.size _)
        obtain ⟨g4, hg4⟩ : ∃ g4, x0.heap.size = g4 := ⟨_, rfl⟩
        obtain ⟨g5, hg5⟩ : ∃ g5, x1.heap.size = g5 := ⟨_, rfl⟩
        obtain ⟨W4, hW4⟩ : ∃ W4, x1.alloc (.cells (rS.v v.r) 30) = W4 := ⟨_, rfl⟩
        rw [hW4] at r2 s2 q4 B4
        rw [hg4] at r2
        rw [hg5] at s2
        try rw [hW4]
        try rw [hg4]
        try rw [hg5]
        have l4 : g4 < W4.heap.size := Shp.rd_lt r2
        have l5 : g5 < W4.heap.size := Shp.rd_lt s2
        have l6 : (ad.add i).block < W4.heap.size := by
          have e1 : (ad.add i).block = ad.block := by unfold Addr.add; split <;> rfl
          rw [e1]; have := B4.out.size; have := HAL.out; omega
        have CN1 := Lib.hid (fun o : On => CN.out (ext W4 o) (below_up B4.out B4.out.size (ext_below W4 o)))
        have CM1 := Lib.hid (fun o : On => CM.out (ext W4 o) (below_up B4.out B4.out.size (ext_below W4 o)))
        clear q1 q2 q2a q3 r1 l1 hg4 hg5 hW4 X0 X1
        go_wp2_with fail
        refine wp_region_ext (by kernel_rfl) (by kernel_rfl) ?_
        repeat (go_big_quiet_step (first | (go_at_call 20; with_reducible exact calls_ext (CN1.out _)) | (go_at_call 20; with_reducible exact calls_ext (CM1.out _))))
        refine wpQuiet_nil ?_
        intro w6 hw6
        have b6 := ext_to hw6
        clear hw6
        go_wp2
        go_roundw
        case rel => exact ⟨i + 1, by omega, by go_num, Lib.hid (below_up B4.out B4.out.size b6)⟩
        case measure => simp [intOf]; omega
      · have h1 : ¬ p < x := fun h => absurd (hab.1 h) (by omega)
        have i1 : ¬ ((p : Int) < (x : Int)) := by omega
        have i2 : ¬ ((p : Int) < (y : Int)) := by omega
        clear hab
        go_wp2_with (first
          | (go_at_call 14; (with_reducible refine (CA1.out _ (HW3.out)).mono ?_); rintro e x0 ⟨rfl, b_⟩; have X0 := Lib.hid (below_up (HW3.out) (Below.size (HW3.out)) b_); have q2 := cell_kept_ b_ q1; have q2a := cell_kept_ (below_alloc_ x0 (.cells (rS.v v.r) 30)) q2; clear b_)
          | fail)
        go_wp2_with (first
          | (go_at_call 14; (with_reducible refine (CB1.out _ (X0.out.alloc X0.out.size _)).mono ?_); rintro e x1 ⟨rfl, b_⟩; have X1 := Lib.hid (below_up (X0.out.alloc X0.out.size _) (Below.size (X0.out.alloc X0.out.size _)) b_); have q3 := cell_kept_ b_ (cell_kept_ (below_alloc_ _ _) q2); have r1 : rS.rd x1 ⟨x0.heap.size, 0, none⟩ = some v.r := Shp.rd_on (Shp.rd_new _ _ _ _ rfl) b_; clear b_)
          | fail)
        have l1 : x0.heap.size < x1.heap.size := Shp.rd_lt r1
        have r2 : rS.rd (x1.alloc (.cells (rS.v v.r) 30)) ⟨x0.heap.size, 0, none⟩ = some v.r := Shp.rd_on r1 (below_alloc_ _ _)
        have s2 : rS.rd (x1.alloc (.cells (rS.v v.r) 30)) ⟨x1.heap.size, 0, none⟩ = some v.r := Shp.rd_new _ _ _ _ rfl
        have q4 := cell_kept_ (below_alloc_ x1 (.cells (rS.v v.r) 30)) q3
        have B4 : Hid (Below w3.heap.size w3 (x1.alloc (.cells (rS.v v.r) 30))) := Lib.hid (X1.out.alloc X1.out.size _)
        obtain ⟨g4, hg4⟩ : ∃ g4, x0.heap.size = g4 := ⟨_, rfl⟩
        obtain ⟨g5, hg5⟩ : ∃ g5, x1.heap.size = g5 := ⟨_, rfl⟩
        obtain ⟨W4, hW4⟩ : ∃ W4, x1.alloc (.cells (rS.v v.r) 30) = W4 := ⟨_, rfl⟩
        rw [hW4] at r2 s2 q4 B4
        rw [hg4] at r2
        rw [hg5] at s2
        try rw [hW4]
        try rw [hg4]
        try rw [hg5]
        have l4 : g4 < W4.heap.size := Shp.rd_lt r2
        have l5 : g5 < W4.heap.size := Shp.rd_lt s2
        have l6 : (ad.add i).block < W4.heap.size := by
          have e1 : (ad.add i).block = ad.block := by unfold Addr.add; split <;> rfl
          rw [e1]; have := B4.out.size; have := HAL.out; omega
        have CN1 := Lib.hid (fun o : On => CN.out (ext W4 o) (below_up B4.out B4.out.size (ext_below W4 o)))
        have CM1 := Lib.hid (fun o : On => CM.out (ext W4 o) (below_up B4.out B4.out.size (ext_below W4 o)))
        clear q1 q2 q2a q3 r1 l1 hg4 hg5 hW4 X0 X1
        go_wp2_with fail
        refine wp_region_ext (by kernel_rfl) (by kernel_rfl) ?_
        repeat (go_big_quiet_step (first | (go_at_call 20; with_reducible exact calls_ext (CN1.out _)) | (go_at_call 20; with_reducible exact calls_ext (CM1.out _))))
        refine wpQuiet_nil ?_
        intro w6 hw6
        have b6 := ext_to hw6
        clear hw6
        go_wp2
        go_roundw
        case rel => exact ⟨i + 1, by omega, by go_num, Lib.hid (below_up B4.out B4.out.size b6)⟩
        case measure => simp [intOf]; omega
    · have j1 : ¬ ((i : Int) < (m : Int)) := by omega
      have CA2 := Lib.hid (fun W hW p hp => CA.out W hW p (.inr hp))
      by_cases hly : lt < y
      · have i1 : (lt : Int) < (y : Int) := by omega
        have CA1 := Lib.hid (fun W hW => CA2.out W hW y (Nat.le_of_eq HZ.out))
        have CB1 := Lib.hid (fun W hW => CB.out W hW y)
        obtain ⟨v, hv⟩ : ∃ v, D.seen l y = v := ⟨_, rfl⟩
        rw [hv] at CA1 CB1
        clear hv
        go_wp2_with (first
          | (go_at_call 20; (with_reducible refine (CM.out _ HW3.out).mono ?_); rintro e w4 ⟨rfl, b4⟩; have B4 := Lib.hid (below_up HW3.out HW3.out.size b4); clear b4)
          | fail)
        go_wp2_with (first
          | (go_at_call 20; (with_reducible refine (CM.out _ B4.out).mono ?_); rintro e w4b ⟨rfl, b4⟩; have B4b := Lib.hid (below_up B4.out B4.out.size b4); clear b4)
          | fail)
        go_wp2_with (first
          | (go_at_call 14; (with_reducible refine (CA1.out _ (B4b.out)).mono ?_); rintro e x0 ⟨rfl, b_⟩; have X0 := Lib.hid (below_up (B4b.out) (Below.size (B4b.out)) b_); clear b_)
          | fail)
        go_wp2_with (first
          | (go_at_call 14; (with_reducible refine (CB1.out _ (X0.out.alloc X0.out.size _)).mono ?_); rintro e x1 ⟨rfl, b_⟩; have X1 := Lib.hid (below_up (X0.out.alloc X0.out.size _) (Below.size (X0.out.alloc X0.out.size _)) b_); have r1 : rS.rd x1 ⟨x0.heap.size, 0, none⟩ = some v.r := Shp.rd_on (Shp.rd_new _ _ _ _ rfl) b_; have l1 : x0.heap.size < x1.heap.size := Shp.rd_lt r1; clear b_)
          | fail)
        go_wp2_with (first
          | (go_at_call 18; (with_reducible refine (CK.out _).mono ?_); rintro e x2 ⟨rfl, b_⟩; have X2 := Lib.hid (below_up (X1.out.alloc X1.out.size _) (Below.size (X1.out.alloc X1.out.size _)) b_); have r2 : rS.rd x2 ⟨x0.heap.size, 0, none⟩ = some v.r := Shp.rd_on (Shp.rd_on r1 (below_alloc_ _ _)) b_; have s2 : rS.rd x2 ⟨x1.heap.size, 0, none⟩ = some v.r := Shp.rd_on (Shp.rd_new _ _ _ _ rfl) b_; clear b_)
          | fail)
        go_wp2_with (first
          | (go_at_call 21; (with_reducible refine (CL.out _ X2.out).mono ?_); rintro e x3 ⟨rfl, b_⟩; have X3 := Lib.hid (below_up X2.out (Below.size X2.out) b_); clear b_)
          | fail)
        go_wp2_with (first
          | (go_at_call 21; (with_reducible refine (CQ.out _ X3.out).mono ?_); rintro e x4 ⟨rfl, b_⟩; have X4 := Lib.hid (below_up X3.out (Below.size X3.out) b_); clear b_)
          | fail)
        go_ret
        exact ⟨rfl, (by rw [hg]; exact below_up HB3.out (by have := HB3.out.size; omega) X4.out)⟩
      · have i1 : ¬ ((lt : Int) < (y : Int)) := by omega
        have CA1 := Lib.hid (fun W hW => CA2.out W hW lt (by have := HZ.out; omega))
        have CB1 := Lib.hid (fun W hW => CB.out W hW lt)
        obtain ⟨v, hv⟩ : ∃ v, D.seen l lt = v := ⟨_, rfl⟩
        rw [hv] at CA1 CB1
        clear hv
        go_wp2_with (first
          | (go_at_call 20; (with_reducible refine (CM.out _ HW3.out).mono ?_); rintro e w4 ⟨rfl, b4⟩; have B4 := Lib.hid (below_up HW3.out HW3.out.size b4); clear b4)
          | fail)
        go_wp2_with (first
          | (go_at_call 14; (with_reducible refine (CA1.out _ (B4.out)).mono ?_); rintro e x0 ⟨rfl, b_⟩; have X0 := Lib.hid (below_up (B4.out) (Below.size (B4.out)) b_); clear b_)
          | fail)
        go_wp2_with (first
          | (go_at_call 14; (with_reducible refine (CB1.out _ (X0.out.alloc X0.out.size _)).mono ?_); rintro e x1 ⟨rfl, b_⟩; have X1 := Lib.hid (below_up (X0.out.alloc X0.out.size _) (Below.size (X0.out.alloc X0.out.size _)) b_); have r1 : rS.rd x1 ⟨x0.heap.size, 0, none⟩ = some v.r := Shp.rd_on (Shp.rd_new _ _ _ _ rfl) b_; have l1 : x0.heap.size < x1.heap.size := Shp.rd_lt r1; clear b_)
          | fail)
        go_wp2_with (first
          | (go_at_call 18; (with_reducible refine (CK.out _).mono ?_); rintro e x2 ⟨rfl, b_⟩; have X2 := Lib.hid (below_up (X1.out.alloc X1.out.size _) (Below.size (X1.out.alloc X1.out.size _)) b_); have r2 : rS.rd x2 ⟨x0.heap.size, 0, none⟩ = some v.r := Shp.rd_on (Shp.rd_on r1 (below_alloc_ _ _)) b_; have s2 : rS.rd x2 ⟨x1.heap.size, 0, none⟩ = some v.r := Shp.rd_on (Shp.rd_new _ _ _ _ rfl) b_; clear b_)
          | fail)
        go_wp2_with (first
          | (go_at_call 21; (with_reducible refine (CL.out _ X2.out).mono ?_); rintro e x3 ⟨rfl, b_⟩; have X3 := Lib.hid (below_up X2.out (Below.size X2.out) b_); clear b_)
          | fail)
        go_wp2_with (first
          | (go_at_call 21; (with_reducible refine (CQ.out _ X3.out).mono ?_); rintro e x4 ⟨rfl, b_⟩; have X4 := Lib.hid (below_up X3.out (Below.size X3.out) b_); clear b_)
          | fail)
        go_ret
        exact ⟨rfl, (by rw [hg]; exact below_up HB3.out (by have := HB3.out.size; omega) X4.out)⟩
end Go.Proofs.Ytcnbdfobhablbaa
