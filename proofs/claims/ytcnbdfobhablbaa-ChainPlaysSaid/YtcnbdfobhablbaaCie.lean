/-
  How few trimming leaves: the law.
-/
import Derived.Test.YtcnbdfobhablbaaCid
set_option linter.unusedVariables false
set_option linter.unusedSimpArgs false
set_option maxRecDepth 100000
namespace Go.Proofs.Ytcnbdfobhablbaa
open Go.RowKit
attribute [local go_sem ↓] Go.wp_at_zero Go.wp_at_succ ld_v lv_v st_v ne_v bd_v bs_v ld_w lv_w st_w ne_w bd_w bs_w ld_r ld_d lv_r lv_d st_r st_d ne_r eq_r ne_d bd_r bd_d
attribute [local go_sem] run_ldv run_lvv run_stv run_nev run_bdv_z run_bdv_d run_bdv_r run_bsv1 run_bsv0 run_ldw run_lvw run_stw run_new run_bdw_3 run_bsw1 run_bsw0 run_ldr run_ldd run_lvr run_lvd run_str run_std run_ner run_eqr run_ned run_bdr0 run_bdd0 run_bdr1 run_bdd1 run_bdd9 Shp.rd_new Shp.rd_old Shp.rd_drew Shp.rd_drewN Shp.rd_set Shp.tn_new Shp.tn_old Shp.tn_drew Shp.tn_drewN setRow_alloc vv_0 vv_1 wv_0 wv_1 run_fdv0 run_fdv1 run_stf Shp.rd_extk cell_ext
theorem wds_nil_row (W : World) : Row W none 0 (wds []) := ⟨rfl, fun h => absurd h (by omega)⟩
set_option maxHeartbeats 16000000 in
theorem law_few {w : World} {A : Option Addr} {n c : Nat} {vs : List D.Vn} {B : Option Addr} {n2 cb : Nat} {ps0 : List Nat} (hr : Shp.Row vS w A n vs) (hw : ∀ v ∈ vs, v.wf ∧ v.r.t.size ≤ maxLen) (hn : n ≤ maxLen) (hr2 : Row w B n2 (wds ps0)) (hw2 : ∀ p ∈ ps0, p < 18446744073709551616) (hc2 : n2 ≤ cb) :
    Calls Try.prog 6 #[.slice A n c, .slice B n2 cb] w fun e w' => e = .returned (.bool true) ∧ Below w.heap.size w w' := by
  obtain ⟨m, hm1, hm2, hmin⟩ := min_run n2 8 8 rfl
  have hcut := upto_run_p B n2 cb m (by omega)
  have hrp := row_take hr2 hm1
  have hwp : ∀ p ∈ ps0.take m, p < 18446744073709551616 := fun p hp => hw2 p (List.mem_of_mem_take hp)
  obtain ⟨ps, hps⟩ : ∃ ps, ps0.take m = ps := ⟨_, rfl⟩
  rw [hps] at hrp hwp
  obtain ⟨l, hl⟩ : ∃ l, D.pl (vs.take 20) = l := ⟨_, rfl⟩
  obtain ⟨g, hg⟩ : ∃ g, w.heap.size = g := ⟨_, rfl⟩
  have CP : Hid (∀ W, Below g w W → Calls Try.prog 19 #[.slice A n c] W fun e w' => e = .returned (.pointer (some ⟨W.heap.size, 0, none⟩)) ∧ (∃ (A' : Option Addr) (c' : Nat), Cn W.heap.size w' W.heap.size A' c' l) ∧ Below W.heap.size W w') := fun W hW => by
    have := lput_any (c := c) (hr.on (by rw [hg]; exact hW)) hw hn
    rw [hl] at this
    exact this
  have CK := Lib.hid (fun W => known_any W)
  have HRP := Lib.hid hrp
  have HWP := Lib.hid hwp
  have hpl : Kept (ps.length = m) := ⟨by have := hrp.len; rwa [wds_len] at this⟩
  clear hr hw hn hr2 hw2 hc2 hrp hwp hps hl
  go_enter Try.func6, Try.ntmps6
  go_wp2_with fail
  refine (CP.out w (Below.refl _ _)).mono ?_
  rintro e w1 ⟨rfl, ⟨A1, c1, hC1⟩, b1⟩
  rw [hg] at hC1 b1
  try rw [hg]
  have HC1 := Lib.hid hC1
  have HB1 := Lib.hid b1
  clear hC1 b1
  go_wp2_with fail
  refine (CP.out w1 HB1.out).mono ?_
  rintro e w2 ⟨rfl, ⟨A2, c2, hC2⟩, b2⟩
  have HC2 := Lib.hid hC2
  have HB2 := Lib.hid b2
  obtain ⟨g2, hg2⟩ : ∃ g2, w1.heap.size = g2 := ⟨_, rfl⟩
  try rw [hg2]
  have HG2 := Lib.hid hg2
  obtain ⟨a, ha⟩ : ∃ a, l.length = a := ⟨_, rfl⟩
  obtain ⟨t, ht⟩ : ∃ t, D.trm ps l = t := ⟨_, rfl⟩
  obtain ⟨b, hb⟩ : ∃ b, t.length = b := ⟨_, rfl⟩
  obtain ⟨G, hG⟩ : ∃ G, a - b = G := ⟨_, rfl⟩
  have hba : b ≤ a := by rw [← ha, ← hb, ← ht]; exact (D.trm_sub ps l).length_le
  have ha1000 : a ≤ 1000 := by rw [← ha]; exact hC2.le
  have e1 : (a : Int) - (G : Int) = (b : Int) := by omega
  have hG1000 : G ≤ 1000 := by omega
  have CLN : Hid (∀ W, Below w2.heap.size w2 W → Calls Try.prog 22 #[.pointer (some ⟨g, 0, none⟩)] W fun e w' => e = .returned (.int .i64 (a : Nat)) ∧ Below W.heap.size W w') := fun W hW => by
    have := len_any (((HC1.out.on HB2.out).on hW).al)
    rw [ha] at this; exact this
  have CT : Hid (∀ W, Below w2.heap.size w2 W → Calls Try.prog 9 #[.pointer (some ⟨g, 0, none⟩), .slice B m cb] W fun e w' => e = .returned (.int .i64 (G : Nat)) ∧ ∃ A' c', Cn g w' g A' c' t ∧ Cn g2 w' g2 A2 c2 l ∧ Below g w w' ∧ Row w' B m (wds ps) ∧ ¬ at_ A' g2) := Lib.hid (fun W hW => by
    have hb2 : Below g w W := below_up (below_up HB1.out (by have := HC1.out.blk.lt; omega) HB2.out) (by have := HC1.out.blk.lt; have := HB2.out.size; omega) hW
    refine (trim_any ((HC1.out.on HB2.out).on hW) ps (HRP.out.on (by rw [hg]; exact hb2)) (by omega) (by have := hb2.size; omega)).mono ?_
    rintro e w3 ⟨rfl, A3, c3, h3, o3, h4⟩
    obtain ⟨k1, k2⟩ := two_trim hg HC1.out HB1.out (HC2.out.on hW) (HB2.out.trans (hW.mono HB2.out.size)) h3 o3
    rw [HG2.out] at k1
    refine ⟨by rw [ht, ha, hb, hG], A3, c3, by rw [← ht]; exact h3, k1, k2, HRP.out.on (by rw [hg]; exact k2), fun h => ?_⟩
    have := h4 g2 h
    have := HC2.out.blk.lt
    have := hW.size
    have := HG2.out
    omega)
  clear hC2 b2 hg2
  go_wp2_with (first
    | (go_at_call 22; (with_reducible refine (CLN.out _ (Below.refl _ _)).mono ?_); rintro e w2b ⟨rfl, b_⟩; have HB2b := Lib.hid b_; clear b_)
    | fail)
  refine (CT.out _ HB2b.out).mono ?_
  rintro e w3 ⟨rfl, A3, c3, hC3, hD3, hB3, hP3, hne⟩
  have HC3 := Lib.hid hC3
  have HD3 := Lib.hid hD3
  have HP3 := Lib.hid hP3
  have HB3 := Lib.hid hB3
  have HNE := Lib.hid hne
  clear hC3 hD3 hB3 hP3 hne CT CP CLN
  go_wp2_with fail
  go_loopw [9, 10] (fun s9 s10 wx => ∃ u i : Nat, i ≤ m ∧ u ≤ i ∧ s9 = .int .i64 u ∧ s10 = .int .i64 i ∧ Hid (Below w3.heap.size w3 wx) ∧ Hid (∃ qs : List Nat, qs.length = u ∧ ∀ p, p ∈ qs ↔ p ∈ ps.take i)) (fun _ s10 _ => m - (intOf s10).toNat)
  case atStart => exact ⟨0, 0, Nat.zero_le _, Nat.le_refl _, rfl, rfl, Lib.hid (Below.refl _ _), Lib.hid ⟨[], rfl, by simp⟩⟩
  case round =>
    obtain ⟨u, i, him, hui, rfl, rfl, HW3, HQ⟩ := hrel
    by_cases him2 : i < m
    · have j0 : (0 : Int) ≤ (i : Int) := by omega
      have j1 : (i : Int) < (m : Int) := by omega
      obtain ⟨p, hp⟩ : ∃ p, ps[i]? = some p := ⟨_, List.getElem?_eq_getElem (by have := hpl.out; omega)⟩
      have HPI := Lib.hid hp
      have hpm := List.mem_of_getElem? hp
      have hpb := HWP.out p hpm
      obtain ⟨ad, hAe, hal, hcell⟩ := HP3.out.to (by omega)
      subst hAe
      have HCL : Hid (∀ W, Below w3.heap.size w3 W → ∀ (k q : Nat), ps[k]? = some q → W.cell? (ad.add k) = some (.int .u64 (q : Nat)) ∧ (ad.add k).block < W.heap.size) := fun W hW k q hq => ⟨cell_kept_ hW (hcell k _ (by simp [wds, hq])), by
        have e1 : (ad.add k).block = ad.block := by unfold Addr.add; split <;> rfl
        rw [e1]; have := hW.size; omega⟩
      clear hp hpm hcell hal
      go_wp2_with fail
      go_loopw [11, 12] (fun s11 s12 wx => ∃ (k : Nat) (f : Bool), k ≤ i ∧ s11 = .bool f ∧ s12 = .int .i64 k ∧ Hid (Below w3.heap.size w3 wx) ∧ Kept (f = !(ps.take k).contains p)) (fun _ s12 _ => i - (intOf s12).toNat)
      case atStart => exact ⟨0, true, Nat.zero_le _, rfl, rfl, HW3, ⟨by simp⟩⟩
      case round =>
        clear HW3
        obtain ⟨k, f, hki, rfl, rfl, HW3, HF⟩ := hrel
        by_cases hki2 : k < i
        · have k0 : (0 : Int) ≤ (k : Int) := by omega
          have k1 : (k : Int) < (i : Int) := by omega
          have k2 : (k : Int) < (m : Int) := by omega
          obtain ⟨q, hq⟩ : ∃ q, ps[k]? = some q := ⟨_, List.getElem?_eq_getElem (by have := hpl.out; omega)⟩
          obtain ⟨q1, q2⟩ := HCL.out wr HW3.out k q hq
          obtain ⟨q3, q4⟩ := HCL.out wr HW3.out i p HPI.out
          have HF2 : Kept (∀ f2 : Bool, f2 = (f && !(q == p)) → f2 = !(ps.take (k + 1)).contains p) := ⟨by
            intro f2 h2
            have h3 : ps.take (k + 1) = ps.take k ++ [q] := by rw [List.take_add_one, hq]; rfl
            rw [h3, h2, HF.out, Bool.eq_iff_iff]
            simp only [Bool.and_eq_true, Bool.not_eq_true', List.contains_append, Bool.or_eq_false_iff]
            refine and_congr_right fun _ => ?_
            by_cases h : q = p
            · subst h; simp
            · have h' : p ≠ q := Ne.symm h
              simp [h, h']⟩
          clear hq
          cases f with
          | true =>
            by_cases hqp : q = p
            · subst hqp
              go_wp2_with fail
              refine wp_region_ext (by kernel_rfl) (by kernel_rfl) ?_
              repeat (go_big_quiet_step (fail))
              refine wpQuiet_nil ?_
              intro w6 hw6
              have b6 := ext_to hw6
              clear hw6
              go_wp2
              go_roundw
              case rel => exact ⟨k + 1, false, by omega, rfl, by go_num, Lib.hid (below_up HW3.out HW3.out.size b6), ⟨HF2.out _ (by simp)⟩⟩
              case measure => simp [intOf]; omega
            · have hqi : ¬ ((q : Int) = (p : Int)) := by omega
              go_wp2_with fail
              refine wp_region_ext (by kernel_rfl) (by kernel_rfl) ?_
              repeat (go_big_quiet_step (fail))
              refine wpQuiet_nil ?_
              intro w6 hw6
              have b6 := ext_to hw6
              clear hw6
              go_wp2
              go_roundw
              case rel => exact ⟨k + 1, true, by omega, by simp [hqi], by go_num, Lib.hid (below_up HW3.out HW3.out.size b6), ⟨HF2.out _ (by simp [hqp])⟩⟩
              case measure => simp [intOf]; omega
          | false =>
            go_wp2_with fail
            refine wp_region_ext (by kernel_rfl) (by kernel_rfl) ?_
            repeat (go_big_quiet_step (fail))
            refine wpQuiet_nil ?_
            intro w6 hw6
            have b6 := ext_to hw6
            clear hw6
            go_wp2
            go_roundw
            case rel => exact ⟨k + 1, false, by omega, rfl, by go_num, Lib.hid (below_up HW3.out HW3.out.size b6), ⟨HF2.out _ (by simp)⟩⟩
            case measure => simp [intOf]; omega
        · have k1 : ¬ ((k : Int) < (i : Int)) := by omega
          have hke : k = i := by omega
          have HF2 : Kept (f = !(ps.take i).contains p) := ⟨by rw [← hke]; exact HF.out⟩
          have HT : Kept (ps.take (i + 1) = ps.take i ++ [p]) := ⟨by rw [List.take_add_one, HPI.out]; rfl⟩
          clear hke
          cases f with
          | true =>
            go_wp2_with fail
            go_roundw
            case rel => exact ⟨u + 1, i + 1, by omega, by omega, by go_num, by go_num, HW3, Lib.hid (by
              obtain ⟨qs, h1, h2⟩ := HQ.out
              refine ⟨qs ++ [p], by simp [h1], fun x => ?_⟩
              rw [HT.out, List.mem_append, List.mem_append, h2])⟩
            case measure => simp [intOf]; omega
          | false =>
            go_wp2_with fail
            go_roundw
            case rel => exact ⟨u, i + 1, by omega, by omega, rfl, by go_num, HW3, Lib.hid (by
              obtain ⟨qs, h1, h2⟩ := HQ.out
              refine ⟨qs, h1, fun x => ?_⟩
              have h4 : p ∈ ps.take i := by
                have := HF2.out
                simpa using this
              rw [HT.out, List.mem_append, h2]
              constructor
              · exact .inl
              · rintro (h | h)
                · exact h
                · rw [List.mem_singleton.1 h]; exact h4)⟩
            case measure => simp [intOf]; omega
    · have j1 : ¬ ((i : Int) < (m : Int)) := by omega
      have HPS : Kept (ps.take i = ps) := ⟨List.take_of_length_le (by have := hpl.out; omega)⟩
      obtain ⟨z, hz⟩ : ∃ z, D.liv l = z := ⟨_, rfl⟩
      obtain ⟨y, hy⟩ : ∃ y, D.trm [] l = y := ⟨_, rfl⟩
      have HYL : Hid (y.length = if z = true then 1 else 0) := Lib.hid (by rw [← hy, D.trm_none, hz])
      have hbu : b ≤ u + 1 := by
        obtain ⟨qs, h1, h2⟩ := HQ.out
        rw [HPS.out] at h2
        have := D.trm_many h2 HD3.out.srt
        rw [ht, hb, h1] at this
        exact this
      have HT2 : Hid (D.trm ps t = t) := Lib.hid (by rw [← ht]; exact D.trm_trm HD3.out.srt ps)
      have hgg : Hid (g < g2) := Lib.hid (by have := HC1.out.blk.lt; have := HG2.out; omega)
      have HCr := Lib.hid (HC3.out.on HW3.out)
      have HDr := Lib.hid (HD3.out.on HW3.out)
      have HBr : Hid (Below g w wr) := Lib.hid (below_up HB3.out (by have := HC3.out.blk.lt; omega) HW3.out)
      have CLV : Hid (Calls Try.prog 21 #[.pointer (some ⟨g2, 0, none⟩)] wr fun e w' => e = .returned (.bool z) ∧ Below wr.heap.size wr w') := Lib.hid (by
        have := live_any HDr.out.al HDr.out.wf; rw [hz] at this; exact this)
      have CTN : Hid (∀ W, Below wr.heap.size wr W → Calls Try.prog 9 #[.pointer (some ⟨g2, 0, none⟩), .slice none 0 0] W fun e w' => ∃ r : Nat, e = .returned (.int .i64 (r : Nat)) ∧ ∃ A' c', Cn g2 w' g2 A' c' y ∧ Cn g w' g A3 c3 t ∧ Below g w w' ∧ ¬ at_ A' g) := Lib.hid (fun W hW => by
        have hDW := HDr.out.on hW
        refine (trim_any hDW [] (wds_nil_row W) (by omega) (by have := hDW.blk.lt; omega)).mono ?_
        rintro e w5 ⟨rfl, A5, c5, h3, o3, h4⟩
        rw [hy] at h3
        have := hgg.out
        refine ⟨_, rfl, A5, c5, h3, (HCr.out.on hW).only o3 (by omega) (fun i hi h => HNE.out (by rw [h] at hi; exact hi)), ?_, fun h => ?_⟩
        · have hbW : Below g w W := below_up HBr.out (by have := HCr.out.blk.lt; omega) hW
          exact hbW.trans (o3.below (by have := hDW.blk.lt; omega) (fun i hi => by omega))
        · have := h4 g h
          have := hDW.blk.lt
          omega)
      have HTB := Lib.hid hb
      clear hz hy ht hb hG ha hba
      go_wp2_with (first
        | (go_at_call 21; (with_reducible refine CLV.out.mono ?_); rintro e x1 ⟨rfl, b_⟩; have X1 := Lib.hid b_; clear b_)
        | fail)
      refine (CTN.out _ X1.out).mono ?_
      rintro e w5 ⟨r, rfl, A5, c5, hD5, hC5, hB5, hn5⟩
      have HC5 := Lib.hid hC5
      have HD5 := Lib.hid hD5
      have HB5 := Lib.hid hB5
      have HN5 := Lib.hid hn5
      have CL5 : Hid (∀ W, Below w5.heap.size w5 W → Calls Try.prog 22 #[.pointer (some ⟨g, 0, none⟩)] W fun e w' => e = .returned (.int .i64 (b : Nat)) ∧ Below W.heap.size W w') := Lib.hid (fun W hW => by have := len_any (HC5.out.on hW).al; rw [HTB.out] at this; exact this)
      clear hD5 hC5 hB5 hn5 CTN CLV
      have CT5 : Hid (∀ W, Below w5.heap.size w5 W → Calls Try.prog 9 #[.pointer (some ⟨g, 0, none⟩), .slice B m cb] W fun e w' => e = .returned (.int .i64 0) ∧ Cn g2 w' g2 A5 c5 y ∧ Below g w w') := Lib.hid (fun W hW => by
        have hCW := HC5.out.on hW
        have hBW : Below g w W := below_up HB5.out (by have := HC5.out.blk.lt; omega) hW
        refine (trim_any hCW ps (HRP.out.on (by rw [hg]; exact hBW)) (by omega) (by have := hCW.blk.lt; omega)).mono ?_
        rintro e w8 ⟨rfl, A8, c8, h3, o3, -⟩
        have := hgg.out
        refine ⟨by rw [HT2.out, Nat.sub_self]; rfl, (HD5.out.on hW).only o3 (by omega) (fun i hi h => HN5.out (by rw [h] at hi; exact hi)), hBW.trans (o3.below (by have := hCW.blk.lt; omega) (fun i hi => by omega))⟩)
      obtain ⟨yl, hyl⟩ : ∃ yl, y.length = yl := ⟨_, rfl⟩
      have CLY : Hid (∀ W, Cn g2 W g2 A5 c5 y → Calls Try.prog 22 #[.pointer (some ⟨g2, 0, none⟩)] W fun e w' => e = .returned (.int .i64 (yl : Nat)) ∧ Below W.heap.size W w') := Lib.hid (fun W hW => by have := len_any hW.al; rw [hyl] at this; exact this)
      have HYZ := HYL.out
      rw [hyl] at HYZ
      clear hyl
      have ib : (b : Int) ≤ (u : Int) + 1 := by omega
      cases z with
      | true =>
        obtain rfl : yl = 1 := HYZ
        go_wp2_with (first
          | (go_at_call 18; (with_reducible refine (CK.out _).mono ?_); rintro e x6 ⟨rfl, b_⟩; have X6 := Lib.hid b_; clear b_)
          | fail)
        go_wp2_with (first
          | (go_at_call 22; (with_reducible refine (CL5.out _ X6.out).mono ?_); rintro e x7 ⟨rfl, b_⟩; have X7 := Lib.hid (below_up X6.out X6.out.size b_); clear b_)
          | fail)
        go_wp2_with (first
          | (go_at_call 22; (with_reducible refine (CL5.out _ X7.out).mono ?_); rintro e x8 ⟨rfl, b_⟩; have X8 := Lib.hid (below_up X7.out X7.out.size b_); clear b_)
          | fail)
        go_wp2_with (first
          | (go_at_call 9; (with_reducible refine (CT5.out _ X8.out).mono ?_); rintro e x9 ⟨rfl, hc9, hb9⟩; have HC9 := Lib.hid hc9; have HB9 := Lib.hid hb9; clear hc9 hb9)
          | fail)
        go_wp2_with (first
          | (go_at_call 22; (with_reducible refine (CLY.out _ HC9.out).mono ?_); rintro e x10 ⟨rfl, b_⟩; have HB10 := Lib.hid (below_up HB9.out (by have := HC9.out.blk.lt; have := hgg.out; omega) b_); clear b_)
          | fail)
        go_ret
        exact ⟨rfl, (by rw [hg]; exact HB10.out)⟩
      | false =>
        obtain rfl : yl = 0 := HYZ
        go_wp2_with (first
          | (go_at_call 18; (with_reducible refine (CK.out _).mono ?_); rintro e x6 ⟨rfl, b_⟩; have X6 := Lib.hid b_; clear b_)
          | fail)
        go_wp2_with (first
          | (go_at_call 22; (with_reducible refine (CL5.out _ X6.out).mono ?_); rintro e x7 ⟨rfl, b_⟩; have X7 := Lib.hid (below_up X6.out X6.out.size b_); clear b_)
          | fail)
        go_wp2_with (first
          | (go_at_call 22; (with_reducible refine (CL5.out _ X7.out).mono ?_); rintro e x8 ⟨rfl, b_⟩; have X8 := Lib.hid (below_up X7.out X7.out.size b_); clear b_)
          | fail)
        go_wp2_with (first
          | (go_at_call 9; (with_reducible refine (CT5.out _ X8.out).mono ?_); rintro e x9 ⟨rfl, hc9, hb9⟩; have HC9 := Lib.hid hc9; have HB9 := Lib.hid hb9; clear hc9 hb9)
          | fail)
        go_wp2_with (first
          | (go_at_call 22; (with_reducible refine (CLY.out _ HC9.out).mono ?_); rintro e x10 ⟨rfl, b_⟩; have HB10 := Lib.hid (below_up HB9.out (by have := HC9.out.blk.lt; have := hgg.out; omega) b_); clear b_)
          | fail)
        go_ret
        exact ⟨rfl, (by rw [hg]; exact HB10.out)⟩
end Go.Proofs.Ytcnbdfobhablbaa
