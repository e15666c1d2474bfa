/-
  Calls that came in, in memory: loaded and stored; what is put and trimmed, and seen: the law.
-/
import Derived.Test.YtcnbdfobhablbaaCib
import Derived.Test.YtcnbdfobhablbaaCie
import Derived.Test.YtcnbdfobhablbaaCop
set_option linter.unusedVariables false
set_option linter.unusedSimpArgs false
set_option maxRecDepth 100000
namespace Go.Proofs.Ytcnbdfobhablbaa
open Go.RowKit
attribute [local go_sem ↓] Go.wp_at_zero Go.wp_at_succ ld_v lv_v st_v ne_v bd_v bs_v ld_w lv_w st_w ne_w bd_w bs_w ld_r ld_d lv_r lv_d st_r st_d ne_r eq_r ne_d bd_r bd_d
attribute [local go_sem] run_ldv run_lvv run_stv run_nev run_bdv_z run_bdv_d run_bdv_r run_bsv1 run_bsv0 run_ldw run_lvw run_stw run_new run_bdw_3 run_bsw1 run_bsw0 run_ldr run_ldd run_lvr run_lvd run_str run_std run_ner run_eqr run_ned run_bdr0 run_bdd0 run_bdr1 run_bdd1 run_bdd9 Shp.rd_new Shp.rd_old Shp.rd_drew Shp.rd_drewN Shp.rd_set Shp.tn_new Shp.tn_old Shp.tn_drew Shp.tn_drewN setRow_alloc vv_0 vv_1 wv_0 wv_1 run_fdv0 run_fdv1 run_stf Shp.rd_extk cell_ext
noncomputable def ldq (v : Value) : Sem Value := Instr.loadAt 35 v
noncomputable def lvq (a : Addr) : Sem Value := loadVar 35 a
noncomputable def stq (p v : Value) : Sem Unit := Instr.storeAt 35 p v
theorem ld_q (v : Value) : Instr.loadAt 35 v = ldq v := rfl
theorem lv_q (a : Addr) : loadVar 35 a = lvq a := rfl
theorem st_q (p v : Value) : Instr.storeAt 35 p v = stq p v := rfl
theorem run_lvq (w : World) (a : Addr) : (lvq a).run Try.prog w = (acS.rd w a).elim (bl 35 a w) fun x => .ok (.agg (acS.v x)) w := by
  cases h : acS.rd w a with
  | none => rfl
  | some x => exact Shp.loadVar_of Try.isAgg35 Try.sizeOf35 (Shp.at_of h)
theorem run_ldq (w : World) (a : Addr) : (ldq (.pointer (some a))).run Try.prog w = (acS.rd w a).elim (bl 35 a w) fun x => .ok (.agg (acS.v x)) w := by
  rw [← run_lvq]; simp only [ldq, lvq, Instr.loadAt, Instr.sureAddr, Sem.run_bind, Sem.run_pure, Result.andThen_ok]
theorem run_stq (w : World) (g : Nat) (x : Acv) : (stq (.pointer (some ⟨g, 0, none⟩)) (.agg (acS.v x))).run Try.prog w = bif Shp.tn 13 w g then .ok () (w.setRow g (acS.v x)) else bs 35 g (acS.v x) w := by
  cases h : Shp.tn 13 w g with
  | false => rfl
  | true => exact Shp.storeVar_of (S := acS) h x fun t' cs hb hs => run_storeVar_row (P := Try.prog) w g t' _ cs (acS.v x) hb.out (by rw [acS.v_size]; kernel_rfl) hs (acS.v_one x)
attribute [local go_sem ↓] ld_q lv_q st_q
attribute [local go_sem] run_ldq run_lvq run_stq
/-- What lies in a call. -/
theorem act_in {w : World} {g : Nat} {t : Bool} {v : D.Vn} {A : Option Addr} {n c : Nat} (h : acS.rd w ⟨g, 0, none⟩ = some ⟨t, v, A, n, c⟩) : w.cell? ⟨g, 0, none⟩ = some (.bool t) ∧ vS.rd w ⟨g, 1, none⟩ = some v ∧ w.cell? ⟨g, 12, none⟩ = some (.slice A n c) := by
  have hc := Shp.at_of h
  have c0 : ∀ j u, (accells ⟨t, v, A, n, c⟩)[j]? = some u → w.cell? ⟨g, j, none⟩ = some u := fun j u hu => by have := hc j u hu; rwa [add_o, Nat.zero_add] at this
  refine ⟨c0 0 _ rfl, Shp.rd_of fun j u hu => ?_, c0 12 _ rfl⟩
  rw [add_o, Nat.add_comm]
  refine c0 (j + 1) u ?_
  have hj : j < (vcells v).length := (List.getElem?_eq_some_iff.1 hu).1
  show (vcells v ++ [Value.slice A n c])[j]? = some u
  rw [List.getElem?_append_left hj]
  exact hu
theorem D.puts_1 (l : List D.Vn) (v : D.Vn) : D.puts l [v] = (D.pt l v, (if D.per l v = 0 then 1 else 0), D.per l v) := by
  have := D.puts_more [] l v rfl
  rw [List.nil_append] at this
  rw [this]
  by_cases hp : D.per l v = 0 <;> simp [hp, D.puts]
theorem D.zRc_wf : D.zRc.wf := ⟨by decide, by decide, by decide, by decide, by decide, by decide, by decide⟩
theorem D.seen_wf {l : List D.Vn} (h : ∀ v ∈ l, v.wf) (t : Nat) : (D.seen l t).r.wf := by
  by_cases h0 : D.cnt l t = 0
  · rw [D.seen_0 h0]; exact D.zRc_wf
  · obtain ⟨v, _, e, hm⟩ := D.seen_mem h0
    rw [e]; exact (h v hm).r
set_option maxHeartbeats 16000000 in
theorem law_plays {w : World} {A : Option Addr} {n c : Nat} {acts : List Acv} {tm : Nat} (hr : Shp.Row acS w A n acts) (hw : ∀ a ∈ acts, AcOk w a) (hn : n ≤ maxLen) (ht : tm < 18446744073709551616) :
    Calls Try.prog 3 #[.slice A n c, .int .u64 (tm : Nat)] w fun e w' => e = .returned (.bool true) ∧ Below w.heap.size w w' := by
  have hlen : Kept (acts.length = n) := ⟨hr.len⟩
  have HW := Lib.hid hw
  have hnm : n ≤ 9223372036854775807 := by simp only [maxLen] at hn; omega
  obtain ⟨g, hg⟩ : ∃ g, w.heap.size = g := ⟨_, rfl⟩
  have b0 := below_alloc_ w (.cells #[.slice none 0 0] 26)
  have B0 := Blk.new w 26 #[.slice none 0 0]
  obtain ⟨w0, hw0⟩ : ∃ w0, w.alloc (.cells #[.slice none 0 0] 26) = w0 := ⟨_, rfl⟩
  rw [hw0] at b0 B0
  rw [hg] at b0 B0
  have hs : Hid (∀ W : World, Below g w W → g ≤ W.heap.size) := fun W h => by have := h.size; omega
  have HC0 : Hid (Cn g w0 g none 0 []) := ⟨B0, Ow.nil _ 11 (hs.out _ b0), Nat.le_refl _, D.Srt.nil, by simp, by simp⟩
  have HB0 := Lib.hid b0
  have HR : Hid (∀ W, Below g w W → Shp.Row acS W A n acts) := fun W h => hr.on (by rw [hg]; exact h)
  have CK := Lib.hid (fun W => known_any W)
  clear b0 B0 hr hw hn
  go_enter Try.func3, Try.ntmps3
  go_wp2_with fail
  try rw [hw0]
  go_loopw [6, 7] (fun s6 s7 wx => ∃ (i : Nat) (A4 : Option Addr) (c4 : Nat) (l1 : List D.Vn) (A' : Option Addr) (c' : Nat), i ≤ 30 ∧ i ≤ n ∧ s6 = .slice A4 l1.length c4 ∧ s7 = .int .i64 i ∧ l1.length ≤ i ∧ Hid (Cn g wx g A' c' l1) ∧ Hid (Below g w wx) ∧ Hid (DR wx A4 l1.length l1)) (fun _ s7 _ => n - (intOf s7).toNat)
  case atStart => exact ⟨0, none, 0, [], none, 0, by omega, Nat.zero_le _, rfl, rfl, Nat.le_refl _, HC0, HB0, Lib.hid (DR.nil _ _)⟩
  case round =>
    clear HC0 HB0
    obtain ⟨i, A4, c4, l1, A', c', hi30, hin, rfl, rfl, hli, HC, HB, HD⟩ := hrel
    by_cases hlt : i < n
    · have j0 : (0 : Int) ≤ (i : Int) := by omega
      have j1 : (i : Int) < (n : Int) := by omega
      by_cases h30 : i < 30
      · have j2 : (i : Int) < 30 := by omega
        obtain ⟨a, ha⟩ : ∃ a, acts[i]? = some a := ⟨_, List.getElem?_eq_getElem (by have := hlen.out; omega)⟩
        obtain ⟨ad, hAe, hal, hrd⟩ := (HR.out wr HB.out).rd ha
        subst hAe
        have hrd : acS.rd wr (ad.add (i * 13)) = some a := hrd
        obtain ⟨hvw, hvz, hnc, hcm, xs, hxs⟩ := HW.out a (List.mem_of_getElem? ha)
        obtain ⟨tt, v, Ap, np, cp⟩ := a
        simp only at hvw hvz hnc hcm hxs
        clear ha
        obtain ⟨f0, f1, f2⟩ := act_in (Shp.rd_new (S := acS) wr wr.heap.size 35 ⟨tt, v, Ap, np, cp⟩ rfl)
        have bA := below_alloc_ wr (.cells (acS.v ⟨tt, v, Ap, np, cp⟩) 35)
        obtain ⟨W1, hW1⟩ : ∃ W1, wr.alloc (.cells (acS.v ⟨tt, v, Ap, np, cp⟩) 35) = W1 := ⟨_, rfl⟩
        have HW1 := Lib.hid hW1
        have HBA : Hid (Below wr.heap.size wr W1) := Lib.hid (by rw [← hW1]; exact bA)
        have HB1 : Hid (Below g w W1) := Lib.hid (below_up HB.out (hs.out _ HB.out) HBA.out)
        have HC1 := Lib.hid (HC.out.on HBA.out)
        have HD1 := Lib.hid (HD.out.on HBA.out)
        clear hW1 bA
        cases tt with
        | true =>
          obtain ⟨m, hm1, hm2, hmin⟩ := min_run np 8 8 rfl
          have hcut := upto_run_p Ap np cp m (by omega)
          obtain ⟨ps, hps⟩ : ∃ ps, xs.take m = ps := ⟨_, rfl⟩
          have HRP : Hid (∀ W, Below g w W → Row W Ap m (wds ps)) := Lib.hid (fun W hW => by rw [← hps]; exact row_take (hxs.on (by rw [hg]; exact hW)) hm1)
          clear hxs hps hvw hvz
          obtain ⟨t, ht⟩ : ∃ t, D.trm ps l1 = t := ⟨_, rfl⟩
          obtain ⟨G, hG⟩ : ∃ G, l1.length - t.length = G := ⟨_, rfl⟩
          have hba : t.length ≤ l1.length := by rw [← ht]; exact (D.trm_sub ps l1).length_le
          have e1 : (l1.length : Int) - (t.length : Int) = (G : Int) := by omega
          have CDT : Hid (Calls Try.prog 8 #[.slice A4 l1.length c4, .slice Ap m cp] W1 fun e w' => ∃ B c2, e = .returned (.slice B t.length c2) ∧ DR w' B t.length t ∧ Below W1.heap.size W1 w') := Lib.hid (by
            have := dtrim_any (c := c4) (d := cp) HD1.out HC1.out.srt (by omega) ps (HRP.out _ HB1.out) (by omega)
            rw [ht] at this
            exact this)
          have CTR : Hid (∀ W B, Below W1.heap.size W1 W → DR W B t.length t → Calls Try.prog 9 #[.pointer (some ⟨g, 0, none⟩), .slice Ap m cp] W fun e w' => e = .returned (.int .i64 (G : Nat)) ∧ (∃ A2 c2, Cn g w' g A2 c2 t) ∧ Below g w w' ∧ DR w' B t.length t) := Lib.hid (fun W B hW hB => by
            have hCW := HC1.out.on hW
            have hBW := below_up HB1.out (hs.out _ HB1.out) hW
            refine (trim_any hCW ps (HRP.out _ hBW) (by omega) (by have := hCW.blk.lt; omega)).mono ?_
            rintro e w3 ⟨rfl, A3, c3, h3, o3, -⟩
            rw [ht] at h3
            refine ⟨by rw [ht, hG], ⟨A3, c3, h3⟩, hBW.trans (o3.below (by have := hCW.blk.lt; omega) (fun k hk => by omega)), hB.only o3 (fun k hk cs hcs => ?_)⟩
            subst hk
            have := hcs.symm.trans hCW.blk.out
            injection this with this
            injection this with _ h3
            exact absurd h3 (by decide))
          have hti : t.length ≤ i + 1 := by omega
          clear ht hG hba
          rw [← HW1.out] at CDT
          go_wp2_with (first
            | (go_at_call 8; (with_reducible refine CDT.out.mono ?_); rintro e w2 ⟨B2, c2, rfl, hd2, b2⟩; rw [HW1.out] at b2; have HD2 := Lib.hid hd2; have HB2 := Lib.hid b2; clear hd2 b2)
            | fail)
          refine (CTR.out w2 B2 HB2.out HD2.out).mono ?_
          rintro e w3 ⟨rfl, hc3, hb3, hd3⟩
          have HC3 := Lib.hid hc3
          have HB3 := Lib.hid hb3
          have HD3 := Lib.hid hd3
          clear hc3 hb3 hd3 CDT CTR f0 f1 f2
          obtain ⟨At, ct, hCt⟩ := HC3.out
          have HCk := Lib.hid hCt
          clear hCt
          have CA : Hid (∀ V, Below w3.heap.size w3 V → ∀ p : Nat, Calls Try.prog 14 #[.pointer (some ⟨g, 0, none⟩), .int .u64 (p : Nat)] V fun e w' => e = .returned (.tuple #[.agg (rS.v (D.seen t p).r), .bool (!(D.seen t p).d)]) ∧ Below V.heap.size V w') := Lib.hid (fun V hV p => at_any (HCk.out.al.on hV) p)
          have CDA : Hid (∀ V, Below w3.heap.size w3 V → ∀ p : Nat, Calls Try.prog 15 #[.slice B2 t.length c2, .int .u64 (p : Nat)] V fun e w' => e = .returned (.tuple #[.agg (dS.v (D.seen t p).r), .bool (!(D.seen t p).d)]) ∧ Below V.heap.size V w') := Lib.hid (fun V hV p => dat_any (HD3.out.on hV).row HCk.out.srt (by omega) p)
          have CF : Hid (∀ V (p : Nat), Calls Try.prog 16 #[.agg (rS.v (D.seen t p).r)] V fun e w' => e = .returned (.agg (dS.v (D.seen t p).r)) ∧ Below V.heap.size V w') := Lib.hid (fun V p => of_any _ V (D.seen_wf HCk.out.wf p))
          have CH : Hid (∀ V, Below w3.heap.size w3 V → Calls Try.prog 17 #[.pointer (some ⟨g, 0, none⟩), .slice B2 t.length c2] V fun e w' => e = .returned (.bool true) ∧ Below V.heap.size V w') := Lib.hid (fun V hV => holds_any (HCk.out.on hV).al HCk.out.wf (by omega) (HD3.out.on hV))
          go_wp2_with fail
          go_loopw [16] (fun s16 wx => ∃ k : Nat, k ≤ t.length + 1 ∧ s16 = .int .i64 k ∧ Hid (Below w3.heap.size w3 wx)) (fun s16 _ => t.length + 1 - (intOf s16).toNat)
          case atStart => exact ⟨0, by omega, rfl, Lib.hid (Below.refl _ _)⟩
          case round =>
            obtain ⟨k, hk, rfl, HWk⟩ := hrel
            by_cases hkl : k ≤ t.length
            · have k0 : (k : Int) ≤ (t.length : Int) := by omega
              have k3 : (0 : Int) ≤ (k : Int) := by omega
              by_cases hkl2 : k < t.length
              · have k1 : (k : Int) < (t.length : Int) := by omega
                obtain ⟨y, hy⟩ : ∃ y, t[k]? = some y := ⟨_, List.getElem?_eq_getElem hkl2⟩
                obtain ⟨ad2, hA2, hal2, hrd2⟩ := (HD3.out.on HWk.out).row.rd hy
                subst hA2
                have q1 := (Go.Proofs.Ytcnbdfobhablbaa.wr hrd2).1
                clear hrd2 hy
                have CA1 := Lib.hid (fun V hV => CA.out V hV (y.a))
                have CD1 := Lib.hid (fun V hV => CDA.out V hV (y.a))
                have CF1 := Lib.hid (fun V => CF.out V (y.a))
                obtain ⟨z, hz⟩ : ∃ z, D.seen t (y.a) = z := ⟨_, rfl⟩
                rw [hz] at CA1 CD1 CF1
                clear hz
                go_wp2_with (first
                  | (go_at_call 14; (with_reducible refine (CA1.out _ HWk.out).mono ?_); rintro e x0 ⟨rfl, b_⟩; have X0 := Lib.hid (below_up HWk.out HWk.out.size b_); clear b_)
                  | fail)
                go_wp2_with (first
                  | (go_at_call 15; (with_reducible refine (CD1.out _ (X0.out.alloc X0.out.size _)).mono ?_); rintro e x1 ⟨rfl, b_⟩; have X1 := Lib.hid (below_up (X0.out.alloc X0.out.size _) (Below.size (X0.out.alloc X0.out.size _)) b_); have r1 : rS.rd x1 ⟨x0.heap.size, 0, none⟩ = some z.r := Shp.rd_on (Shp.rd_new _ _ _ _ rfl) b_; clear b_)
                  | fail)
                have r2 : rS.rd (x1.alloc (.cells (dS.v z.r) 42)) ⟨x0.heap.size, 0, none⟩ = some z.r := Shp.rd_on r1 (below_alloc_ _ _)
                have s2 : dS.rd (x1.alloc (.cells (dS.v z.r) 42)) ⟨x1.heap.size, 0, none⟩ = some z.r := Shp.rd_new _ _ _ _ rfl
                have B4 : Hid (Below w3.heap.size w3 (x1.alloc (.cells (dS.v z.r) 42))) := Lib.hid (X1.out.alloc X1.out.size _)
                obtain ⟨g4, hg4⟩ : ∃ g4, x0.heap.size = g4 := ⟨_, rfl⟩
                obtain ⟨g5, hg5⟩ : ∃ g5, x1.heap.size = g5 := ⟨_, rfl⟩
                obtain ⟨W4, hW4⟩ : ∃ W4, x1.alloc (.cells (dS.v z.r) 42) = W4 := ⟨_, rfl⟩
                rw [hW4] at r2 s2 B4
                rw [hg4] at r2
                rw [hg5] at s2
                try rw [hW4]
                try rw [hg4]
                try rw [hg5]
                have l4 : g4 < W4.heap.size := Shp.rd_lt r2
                have l5 : g5 < W4.heap.size := Shp.rd_lt s2
                have CF2 := Lib.hid (fun o : On => CF1.out (ext W4 o))
                clear r1 hg4 hg5 hW4 X0 X1
                go_wp2_with fail
                refine wp_region_ext (by kernel_rfl) (by kernel_rfl) ?_
                repeat (go_big_quiet_step ((go_at_call 16; with_reducible exact calls_ext (CF2.out _))))
                refine wpQuiet_nil ?_
                intro w9 hw9
                have b6 := ext_to hw9
                clear hw9
                go_wp2
                go_roundw
                case rel => exact ⟨k + 1, by omega, by go_num, Lib.hid (below_up B4.out B4.out.size b6)⟩
                case measure => simp [intOf]; omega
              · have k1 : ¬ ((k : Int) < (t.length : Int)) := by omega
                have CA1 := Lib.hid (fun V hV => CA.out V hV (tm))
                have CD1 := Lib.hid (fun V hV => CDA.out V hV (tm))
                have CF1 := Lib.hid (fun V => CF.out V (tm))
                obtain ⟨z, hz⟩ : ∃ z, D.seen t (tm) = z := ⟨_, rfl⟩
                rw [hz] at CA1 CD1 CF1
                clear hz
                go_wp2_with (first
                  | (go_at_call 14; (with_reducible refine (CA1.out _ HWk.out).mono ?_); rintro e x0 ⟨rfl, b_⟩; have X0 := Lib.hid (below_up HWk.out HWk.out.size b_); clear b_)
                  | fail)
                go_wp2_with (first
                  | (go_at_call 15; (with_reducible refine (CD1.out _ (X0.out.alloc X0.out.size _)).mono ?_); rintro e x1 ⟨rfl, b_⟩; have X1 := Lib.hid (below_up (X0.out.alloc X0.out.size _) (Below.size (X0.out.alloc X0.out.size _)) b_); have r1 : rS.rd x1 ⟨x0.heap.size, 0, none⟩ = some z.r := Shp.rd_on (Shp.rd_new _ _ _ _ rfl) b_; clear b_)
                  | fail)
                have r2 : rS.rd (x1.alloc (.cells (dS.v z.r) 42)) ⟨x0.heap.size, 0, none⟩ = some z.r := Shp.rd_on r1 (below_alloc_ _ _)
                have s2 : dS.rd (x1.alloc (.cells (dS.v z.r) 42)) ⟨x1.heap.size, 0, none⟩ = some z.r := Shp.rd_new _ _ _ _ rfl
                have B4 : Hid (Below w3.heap.size w3 (x1.alloc (.cells (dS.v z.r) 42))) := Lib.hid (X1.out.alloc X1.out.size _)
                obtain ⟨g4, hg4⟩ : ∃ g4, x0.heap.size = g4 := ⟨_, rfl⟩
                obtain ⟨g5, hg5⟩ : ∃ g5, x1.heap.size = g5 := ⟨_, rfl⟩
                obtain ⟨W4, hW4⟩ : ∃ W4, x1.alloc (.cells (dS.v z.r) 42) = W4 := ⟨_, rfl⟩
                rw [hW4] at r2 s2 B4
                rw [hg4] at r2
                rw [hg5] at s2
                try rw [hW4]
                try rw [hg4]
                try rw [hg5]
                have l4 : g4 < W4.heap.size := Shp.rd_lt r2
                have l5 : g5 < W4.heap.size := Shp.rd_lt s2
                have CF2 := Lib.hid (fun o : On => CF1.out (ext W4 o))
                clear r1 hg4 hg5 hW4 X0 X1
                go_wp2_with fail
                refine wp_region_ext (by kernel_rfl) (by kernel_rfl) ?_
                repeat (go_big_quiet_step ((go_at_call 16; with_reducible exact calls_ext (CF2.out _))))
                refine wpQuiet_nil ?_
                intro w9 hw9
                have b6 := ext_to hw9
                clear hw9
                go_wp2
                go_roundw
                case rel => exact ⟨k + 1, by omega, by go_num, Lib.hid (below_up B4.out B4.out.size b6)⟩
                case measure => simp [intOf]; omega
            · have k0 : ¬ ((k : Int) ≤ (t.length : Int)) := by omega
              go_wp2_with (first
                | (go_at_call 17; (with_reducible refine (CH.out _ HWk.out).mono ?_); rintro e y1 ⟨rfl, b_⟩; have Y1 := Lib.hid (below_up HWk.out HWk.out.size b_); clear b_)
                | fail)
              go_roundw
              case rel => exact ⟨i + 1, B2, c2, t, At, ct, by omega, by omega, rfl, by go_num, by omega, Lib.hid (HCk.out.on Y1.out), Lib.hid (below_up HB3.out (hs.out _ HB3.out) Y1.out), Lib.hid (HD3.out.on Y1.out)⟩
              case measure => simp [intOf]; omega
        | false =>
          clear hxs hcm hnc f2
          have CU := Lib.hid (vcut_any v false W1 (by simp only [maxLen] at hvz; omega))
          have hcw := D.cutV_wf hvw false
          obtain ⟨x, hx⟩ : ∃ x, D.cutV v false = x := ⟨_, rfl⟩
          rw [hx] at CU hcw
          have HCW := Lib.hid hcw
          clear hx hcw hvw hvz
          obtain ⟨p, hp⟩ : ∃ p, D.per l1 x = p := ⟨_, rfl⟩
          obtain ⟨l2, hl2⟩ : ∃ l2, D.pt l1 x = l2 := ⟨_, rfl⟩
          obtain ⟨q, hq⟩ : ∃ q : Nat, (if p = 0 then 1 else 0) = q := ⟨_, rfl⟩
          have hp1000 : p < 1000 := by rw [← hp]; exact D.per_lt l1 x
          have hl21 : l2.length ≤ l1.length + 1 := by rw [← hl2, D.pt]; split <;> simp
          have CDP : Hid (∀ W, DR W A4 l1.length l1 → Calls Try.prog 11 #[.slice A4 l1.length c4, .agg (wS.v x)] W fun e w' => ∃ A' c', e = .returned (.tuple #[.slice A' l2.length c', .int .i64 (p : Nat)]) ∧ DR w' A' l2.length l2 ∧ Below W.heap.size W w') := fun W h => by
            have := dput_any (c := c4) h (by omega) x
            unfold DPut at this
            rw [hl2, hp] at this
            exact this
          have CPU : Hid (∀ V, Below W1.heap.size W1 V → Calls Try.prog 13 #[.pointer (some ⟨g, 0, none⟩), .slice (some ⟨V.heap.size, 0, none⟩) 1 1] (V.alloc (.cells (vS.v x) 32)) fun e w' => e = .returned (.tuple #[.int .i64 (q : Nat), .int .i64 (p : Nat)]) ∧ (∃ A2 c2, Cn g w' g A2 c2 l2) ∧ Below g w w' ∧ (∀ B, DR V B l2.length l2 → DR w' B l2.length l2)) := Lib.hid (fun V hV => by
            have b2 := below_alloc_ V (.cells (vS.v x) 32)
            have hCV := HC1.out.on hV
            have C2 := hCV.on b2
            have R2 : Shp.Row vS (V.alloc (.cells (vS.v x) 32)) (some ⟨V.heap.size, 0, none⟩) 1 [x] := Shp.row_new V 32 _ [x] rfl _ (by simp [Shp.rcs, Shp.v])
            have hne : V.heap.size ≠ g ∧ ¬ at_ A' V.heap.size := ⟨by have := hCV.blk.lt; omega, fun h => by have := (ow_at hCV.own h).2.2; omega⟩
            have := put_any (d := 1) C2 R2 (fun ad e _ => by injection e with e; subst e; exact hne) (fun u hu => by rw [List.mem_singleton.1 hu]; exact HCW.out) (by omega)
            rw [D.puts_1, hl2, hp, hq] at this
            refine this.mono ?_
            rintro e w3 ⟨rfl, A3, c3, h3, o3, -⟩
            have hBV : Below g w (V.alloc (.cells (vS.v x) 32)) := by
              have h1 := below_up HB1.out (hs.out _ HB1.out) hV
              exact below_up h1 (hs.out _ h1) b2
            refine ⟨rfl, ⟨A3, c3, h3⟩, hBV.trans (o3.below (hs.out _ hBV) (fun k hk => ?_)), fun B hB => (hB.on b2).only o3 (fun k hk cs hcs => ?_)⟩
            · rcases hk with rfl | hk
              · exact Nat.le_refl _
              · exact (ow_at C2.own hk).2.1
            · rcases hk with rfl | hk
              · have := hcs.symm.trans C2.blk.out
                injection this with this
                injection this with _ h3
                exact absurd h3 (by decide)
              · obtain ⟨cs2, h2⟩ := ow_block C2.own hk
                have := hcs.symm.trans h2
                injection this with this
                injection this with _ h3
                exact absurd h3 (by decide))
          clear hp hl2
          rw [← HW1.out] at CU
          by_cases hp0 : p = 0
          · subst hp0
            have hq1 : q = 1 := by rw [← hq]; rfl
            subst hq1
            clear hq
            go_wp2_with (first
              | (go_at_call 10; (with_reducible refine CU.out.mono ?_); rintro e w2 ⟨rfl, b2⟩; rw [HW1.out] at b2; have HB2 := Lib.hid b2; clear b2)
              | fail)
            go_wp2_with (first
              | (go_at_call 12; (with_reducible refine (vof_any x _ HCW.out).mono ?_); rintro e w4 ⟨rfl, b4⟩; have HB4 := Lib.hid (below_up (HB2.out.alloc HB2.out.size _) (Below.size (HB2.out.alloc HB2.out.size _)) b4); have r4 : vS.rd w4 ⟨w2.heap.size, 0, none⟩ = some x := Shp.rd_on (Shp.rd_new _ _ _ _ rfl) b4; clear b4)
              | fail)
            go_wp2_with (first
              | (go_at_call 11; (with_reducible refine (CDP.out w4 (HD1.out.on HB4.out)).mono ?_); rintro e w5 ⟨B5, c5, rfl, hd5, b5⟩; have HB5 := Lib.hid (below_up HB4.out HB4.out.size b5); have r5 := Shp.rd_on r4 b5; have HD5 := Lib.hid hd5; clear hd5 b5)
              | fail)
            go_wp2_with (first
              | (go_at_call 13; (with_reducible refine (CPU.out w5 HB5.out).mono ?_); rintro e w6 ⟨rfl, hc6, hb6, hd6⟩; have HC6 := Lib.hid hc6; have HB6 := Lib.hid hb6; have HD6 := Lib.hid (hd6 _ HD5.out); clear hc6 hb6 hd6 r4 r5)
              | fail)
            clear CDP CPU CU f0 f1
            obtain ⟨At, ct, hCt⟩ := HC6.out
            have HCk := Lib.hid hCt
            clear hCt
            have CA : Hid (∀ V, Below w6.heap.size w6 V → ∀ p : Nat, Calls Try.prog 14 #[.pointer (some ⟨g, 0, none⟩), .int .u64 (p : Nat)] V fun e w' => e = .returned (.tuple #[.agg (rS.v (D.seen l2 p).r), .bool (!(D.seen l2 p).d)]) ∧ Below V.heap.size V w') := Lib.hid (fun V hV p => at_any (HCk.out.al.on hV) p)
            have CDA : Hid (∀ V, Below w6.heap.size w6 V → ∀ p : Nat, Calls Try.prog 15 #[.slice B5 l2.length c5, .int .u64 (p : Nat)] V fun e w' => e = .returned (.tuple #[.agg (dS.v (D.seen l2 p).r), .bool (!(D.seen l2 p).d)]) ∧ Below V.heap.size V w') := Lib.hid (fun V hV p => dat_any (HD6.out.on hV).row HCk.out.srt (by omega) p)
            have CF : Hid (∀ V (p : Nat), Calls Try.prog 16 #[.agg (rS.v (D.seen l2 p).r)] V fun e w' => e = .returned (.agg (dS.v (D.seen l2 p).r)) ∧ Below V.heap.size V w') := Lib.hid (fun V p => of_any _ V (D.seen_wf HCk.out.wf p))
            have CH : Hid (∀ V, Below w6.heap.size w6 V → Calls Try.prog 17 #[.pointer (some ⟨g, 0, none⟩), .slice B5 l2.length c5] V fun e w' => e = .returned (.bool true) ∧ Below V.heap.size V w') := Lib.hid (fun V hV => holds_any (HCk.out.on hV).al HCk.out.wf (by omega) (HD6.out.on hV))
            go_wp2_with fail
            go_loopw [16] (fun s16 wx => ∃ k : Nat, k ≤ l2.length + 1 ∧ s16 = .int .i64 k ∧ Hid (Below w6.heap.size w6 wx)) (fun s16 _ => l2.length + 1 - (intOf s16).toNat)
            case atStart => exact ⟨0, by omega, rfl, Lib.hid (Below.refl _ _)⟩
            case round =>
              obtain ⟨k, hk, rfl, HWk⟩ := hrel
              by_cases hkl : k ≤ l2.length
              · have k0 : (k : Int) ≤ (l2.length : Int) := by omega
                have k3 : (0 : Int) ≤ (k : Int) := by omega
                by_cases hkl2 : k < l2.length
                · have k1 : (k : Int) < (l2.length : Int) := by omega
                  obtain ⟨y, hy⟩ : ∃ y, l2[k]? = some y := ⟨_, List.getElem?_eq_getElem hkl2⟩
                  obtain ⟨ad2, hA2, hal2, hrd2⟩ := (HD6.out.on HWk.out).row.rd hy
                  subst hA2
                  have q1 := (Go.Proofs.Ytcnbdfobhablbaa.wr hrd2).1
                  clear hrd2 hy
                  have CA1 := Lib.hid (fun V hV => CA.out V hV (y.a))
                  have CD1 := Lib.hid (fun V hV => CDA.out V hV (y.a))
                  have CF1 := Lib.hid (fun V => CF.out V (y.a))
                  obtain ⟨z, hz⟩ : ∃ z, D.seen l2 (y.a) = z := ⟨_, rfl⟩
                  rw [hz] at CA1 CD1 CF1
                  clear hz
                  go_wp2_with (first
                    | (go_at_call 14; (with_reducible refine (CA1.out _ HWk.out).mono ?_); rintro e x0 ⟨rfl, b_⟩; have X0 := Lib.hid (below_up HWk.out HWk.out.size b_); clear b_)
                    | fail)
                  go_wp2_with (first
                    | (go_at_call 15; (with_reducible refine (CD1.out _ (X0.out.alloc X0.out.size _)).mono ?_); rintro e x1 ⟨rfl, b_⟩; have X1 := Lib.hid (below_up (X0.out.alloc X0.out.size _) (Below.size (X0.out.alloc X0.out.size _)) b_); have r1 : rS.rd x1 ⟨x0.heap.size, 0, none⟩ = some z.r := Shp.rd_on (Shp.rd_new _ _ _ _ rfl) b_; clear b_)
                    | fail)
                  have r2 : rS.rd (x1.alloc (.cells (dS.v z.r) 42)) ⟨x0.heap.size, 0, none⟩ = some z.r := Shp.rd_on r1 (below_alloc_ _ _)
                  have s2 : dS.rd (x1.alloc (.cells (dS.v z.r) 42)) ⟨x1.heap.size, 0, none⟩ = some z.r := Shp.rd_new _ _ _ _ rfl
                  have B4 : Hid (Below w6.heap.size w6 (x1.alloc (.cells (dS.v z.r) 42))) := Lib.hid (X1.out.alloc X1.out.size _)
                  obtain ⟨g4, hg4⟩ : ∃ g4, x0.heap.size = g4 := ⟨_, rfl⟩
                  obtain ⟨g5, hg5⟩ : ∃ g5, x1.heap.size = g5 := ⟨_, rfl⟩
                  obtain ⟨W4, hW4⟩ : ∃ W4, x1.alloc (.cells (dS.v z.r) 42) = W4 := ⟨_, rfl⟩
                  rw [hW4] at r2 s2 B4
                  rw [hg4] at r2
                  rw [hg5] at s2
                  try rw [hW4]
                  try rw [hg4]
                  try rw [hg5]
                  have l4 : g4 < W4.heap.size := Shp.rd_lt r2
                  have l5 : g5 < W4.heap.size := Shp.rd_lt s2
                  have CF2 := Lib.hid (fun o : On => CF1.out (ext W4 o))
                  clear r1 hg4 hg5 hW4 X0 X1
                  go_wp2_with fail
                  refine wp_region_ext (by kernel_rfl) (by kernel_rfl) ?_
                  repeat (go_big_quiet_step ((go_at_call 16; with_reducible exact calls_ext (CF2.out _))))
                  refine wpQuiet_nil ?_
                  intro w9 hw9
                  have b6 := ext_to hw9
                  clear hw9
                  go_wp2
                  go_roundw
                  case rel => exact ⟨k + 1, by omega, by go_num, Lib.hid (below_up B4.out B4.out.size b6)⟩
                  case measure => simp [intOf]; omega
                · have k1 : ¬ ((k : Int) < (l2.length : Int)) := by omega
                  have CA1 := Lib.hid (fun V hV => CA.out V hV (tm))
                  have CD1 := Lib.hid (fun V hV => CDA.out V hV (tm))
                  have CF1 := Lib.hid (fun V => CF.out V (tm))
                  obtain ⟨z, hz⟩ : ∃ z, D.seen l2 (tm) = z := ⟨_, rfl⟩
                  rw [hz] at CA1 CD1 CF1
                  clear hz
                  go_wp2_with (first
                    | (go_at_call 14; (with_reducible refine (CA1.out _ HWk.out).mono ?_); rintro e x0 ⟨rfl, b_⟩; have X0 := Lib.hid (below_up HWk.out HWk.out.size b_); clear b_)
                    | fail)
                  go_wp2_with (first
                    | (go_at_call 15; (with_reducible refine (CD1.out _ (X0.out.alloc X0.out.size _)).mono ?_); rintro e x1 ⟨rfl, b_⟩; have X1 := Lib.hid (below_up (X0.out.alloc X0.out.size _) (Below.size (X0.out.alloc X0.out.size _)) b_); have r1 : rS.rd x1 ⟨x0.heap.size, 0, none⟩ = some z.r := Shp.rd_on (Shp.rd_new _ _ _ _ rfl) b_; clear b_)
                    | fail)
                  have r2 : rS.rd (x1.alloc (.cells (dS.v z.r) 42)) ⟨x0.heap.size, 0, none⟩ = some z.r := Shp.rd_on r1 (below_alloc_ _ _)
                  have s2 : dS.rd (x1.alloc (.cells (dS.v z.r) 42)) ⟨x1.heap.size, 0, none⟩ = some z.r := Shp.rd_new _ _ _ _ rfl
                  have B4 : Hid (Below w6.heap.size w6 (x1.alloc (.cells (dS.v z.r) 42))) := Lib.hid (X1.out.alloc X1.out.size _)
                  obtain ⟨g4, hg4⟩ : ∃ g4, x0.heap.size = g4 := ⟨_, rfl⟩
                  obtain ⟨g5, hg5⟩ : ∃ g5, x1.heap.size = g5 := ⟨_, rfl⟩
                  obtain ⟨W4, hW4⟩ : ∃ W4, x1.alloc (.cells (dS.v z.r) 42) = W4 := ⟨_, rfl⟩
                  rw [hW4] at r2 s2 B4
                  rw [hg4] at r2
                  rw [hg5] at s2
                  try rw [hW4]
                  try rw [hg4]
                  try rw [hg5]
                  have l4 : g4 < W4.heap.size := Shp.rd_lt r2
                  have l5 : g5 < W4.heap.size := Shp.rd_lt s2
                  have CF2 := Lib.hid (fun o : On => CF1.out (ext W4 o))
                  clear r1 hg4 hg5 hW4 X0 X1
                  go_wp2_with fail
                  refine wp_region_ext (by kernel_rfl) (by kernel_rfl) ?_
                  repeat (go_big_quiet_step ((go_at_call 16; with_reducible exact calls_ext (CF2.out _))))
                  refine wpQuiet_nil ?_
                  intro w9 hw9
                  have b6 := ext_to hw9
                  clear hw9
                  go_wp2
                  go_roundw
                  case rel => exact ⟨k + 1, by omega, by go_num, Lib.hid (below_up B4.out B4.out.size b6)⟩
                  case measure => simp [intOf]; omega
              · have k0 : ¬ ((k : Int) ≤ (l2.length : Int)) := by omega
                go_wp2_with (first
                  | (go_at_call 17; (with_reducible refine (CH.out _ HWk.out).mono ?_); rintro e y1 ⟨rfl, b_⟩; have Y1 := Lib.hid (below_up HWk.out HWk.out.size b_); clear b_)
                  | fail)
                go_roundw
                case rel => exact ⟨i + 1, B5, c5, l2, At, ct, by omega, by omega, rfl, by go_num, by omega, Lib.hid (HCk.out.on Y1.out), Lib.hid (below_up HB6.out (hs.out _ HB6.out) Y1.out), Lib.hid (HD6.out.on Y1.out)⟩
                case measure => simp [intOf]; omega
          · have hq1 : q = 0 := by rw [← hq, if_neg hp0]
            subst hq1
            have hpi : ¬ ((p : Int) = 0) := by omega
            have hpb : ((p : Int) == 0) = false := by simp [hp0]
            clear hq
            go_wp2_with (first
              | (go_at_call 10; (with_reducible refine CU.out.mono ?_); rintro e w2 ⟨rfl, b2⟩; rw [HW1.out] at b2; have HB2 := Lib.hid b2; clear b2)
              | fail)
            go_wp2_with (first
              | (go_at_call 12; (with_reducible refine (vof_any x _ HCW.out).mono ?_); rintro e w4 ⟨rfl, b4⟩; have HB4 := Lib.hid (below_up (HB2.out.alloc HB2.out.size _) (Below.size (HB2.out.alloc HB2.out.size _)) b4); have r4 : vS.rd w4 ⟨w2.heap.size, 0, none⟩ = some x := Shp.rd_on (Shp.rd_new _ _ _ _ rfl) b4; clear b4)
              | fail)
            go_wp2_with (first
              | (go_at_call 11; (with_reducible refine (CDP.out w4 (HD1.out.on HB4.out)).mono ?_); rintro e w5 ⟨B5, c5, rfl, hd5, b5⟩; have HB5 := Lib.hid (below_up HB4.out HB4.out.size b5); have r5 := Shp.rd_on r4 b5; have HD5 := Lib.hid hd5; clear hd5 b5)
              | fail)
            go_wp2_with (first
              | (go_at_call 13; (with_reducible refine (CPU.out w5 HB5.out).mono ?_); rintro e w6 ⟨rfl, hc6, hb6, hd6⟩; have HC6 := Lib.hid hc6; have HB6 := Lib.hid hb6; have HD6 := Lib.hid (hd6 _ HD5.out); clear hc6 hb6 hd6 r4 r5)
              | fail)
            clear CDP CPU CU f0 f1
            obtain ⟨At, ct, hCt⟩ := HC6.out
            have HCk := Lib.hid hCt
            clear hCt
            have CA : Hid (∀ V, Below w6.heap.size w6 V → ∀ p : Nat, Calls Try.prog 14 #[.pointer (some ⟨g, 0, none⟩), .int .u64 (p : Nat)] V fun e w' => e = .returned (.tuple #[.agg (rS.v (D.seen l2 p).r), .bool (!(D.seen l2 p).d)]) ∧ Below V.heap.size V w') := Lib.hid (fun V hV p => at_any (HCk.out.al.on hV) p)
            have CDA : Hid (∀ V, Below w6.heap.size w6 V → ∀ p : Nat, Calls Try.prog 15 #[.slice B5 l2.length c5, .int .u64 (p : Nat)] V fun e w' => e = .returned (.tuple #[.agg (dS.v (D.seen l2 p).r), .bool (!(D.seen l2 p).d)]) ∧ Below V.heap.size V w') := Lib.hid (fun V hV p => dat_any (HD6.out.on hV).row HCk.out.srt (by omega) p)
            have CF : Hid (∀ V (p : Nat), Calls Try.prog 16 #[.agg (rS.v (D.seen l2 p).r)] V fun e w' => e = .returned (.agg (dS.v (D.seen l2 p).r)) ∧ Below V.heap.size V w') := Lib.hid (fun V p => of_any _ V (D.seen_wf HCk.out.wf p))
            have CH : Hid (∀ V, Below w6.heap.size w6 V → Calls Try.prog 17 #[.pointer (some ⟨g, 0, none⟩), .slice B5 l2.length c5] V fun e w' => e = .returned (.bool true) ∧ Below V.heap.size V w') := Lib.hid (fun V hV => holds_any (HCk.out.on hV).al HCk.out.wf (by omega) (HD6.out.on hV))
            go_wp2_with fail
            clear hpi hpb
            go_loopw [16] (fun s16 wx => ∃ k : Nat, k ≤ l2.length + 1 ∧ s16 = .int .i64 k ∧ Hid (Below w6.heap.size w6 wx)) (fun s16 _ => l2.length + 1 - (intOf s16).toNat)
            case atStart => exact ⟨0, by omega, rfl, Lib.hid (Below.refl _ _)⟩
            case round =>
              obtain ⟨k, hk, rfl, HWk⟩ := hrel
              by_cases hkl : k ≤ l2.length
              · have k0 : (k : Int) ≤ (l2.length : Int) := by omega
                have k3 : (0 : Int) ≤ (k : Int) := by omega
                by_cases hkl2 : k < l2.length
                · have k1 : (k : Int) < (l2.length : Int) := by omega
                  obtain ⟨y, hy⟩ : ∃ y, l2[k]? = some y := ⟨_, List.getElem?_eq_getElem hkl2⟩
                  obtain ⟨ad2, hA2, hal2, hrd2⟩ := (HD6.out.on HWk.out).row.rd hy
                  subst hA2
                  have q1 := (Go.Proofs.Ytcnbdfobhablbaa.wr hrd2).1
                  clear hrd2 hy
                  have CA1 := Lib.hid (fun V hV => CA.out V hV (y.a))
                  have CD1 := Lib.hid (fun V hV => CDA.out V hV (y.a))
                  have CF1 := Lib.hid (fun V => CF.out V (y.a))
                  obtain ⟨z, hz⟩ : ∃ z, D.seen l2 (y.a) = z := ⟨_, rfl⟩
                  rw [hz] at CA1 CD1 CF1
                  clear hz
                  go_wp2_with (first
                    | (go_at_call 14; (with_reducible refine (CA1.out _ HWk.out).mono ?_); rintro e x0 ⟨rfl, b_⟩; have X0 := Lib.hid (below_up HWk.out HWk.out.size b_); clear b_)
                    | fail)
                  go_wp2_with (first
                    | (go_at_call 15; (with_reducible refine (CD1.out _ (X0.out.alloc X0.out.size _)).mono ?_); rintro e x1 ⟨rfl, b_⟩; have X1 := Lib.hid (below_up (X0.out.alloc X0.out.size _) (Below.size (X0.out.alloc X0.out.size _)) b_); have r1 : rS.rd x1 ⟨x0.heap.size, 0, none⟩ = some z.r := Shp.rd_on (Shp.rd_new _ _ _ _ rfl) b_; clear b_)
                    | fail)
                  have r2 : rS.rd (x1.alloc (.cells (dS.v z.r) 42)) ⟨x0.heap.size, 0, none⟩ = some z.r := Shp.rd_on r1 (below_alloc_ _ _)
                  have s2 : dS.rd (x1.alloc (.cells (dS.v z.r) 42)) ⟨x1.heap.size, 0, none⟩ = some z.r := Shp.rd_new _ _ _ _ rfl
                  have B4 : Hid (Below w6.heap.size w6 (x1.alloc (.cells (dS.v z.r) 42))) := Lib.hid (X1.out.alloc X1.out.size _)
                  obtain ⟨g4, hg4⟩ : ∃ g4, x0.heap.size = g4 := ⟨_, rfl⟩
                  obtain ⟨g5, hg5⟩ : ∃ g5, x1.heap.size = g5 := ⟨_, rfl⟩
                  obtain ⟨W4, hW4⟩ : ∃ W4, x1.alloc (.cells (dS.v z.r) 42) = W4 := ⟨_, rfl⟩
                  rw [hW4] at r2 s2 B4
                  rw [hg4] at r2
                  rw [hg5] at s2
                  try rw [hW4]
                  try rw [hg4]
                  try rw [hg5]
                  have l4 : g4 < W4.heap.size := Shp.rd_lt r2
                  have l5 : g5 < W4.heap.size := Shp.rd_lt s2
                  have CF2 := Lib.hid (fun o : On => CF1.out (ext W4 o))
                  clear r1 hg4 hg5 hW4 X0 X1
                  go_wp2_with fail
                  refine wp_region_ext (by kernel_rfl) (by kernel_rfl) ?_
                  repeat (go_big_quiet_step ((go_at_call 16; with_reducible exact calls_ext (CF2.out _))))
                  refine wpQuiet_nil ?_
                  intro w9 hw9
                  have b6 := ext_to hw9
                  clear hw9
                  go_wp2
                  go_roundw
                  case rel => exact ⟨k + 1, by omega, by go_num, Lib.hid (below_up B4.out B4.out.size b6)⟩
                  case measure => simp [intOf]; omega
                · have k1 : ¬ ((k : Int) < (l2.length : Int)) := by omega
                  have CA1 := Lib.hid (fun V hV => CA.out V hV (tm))
                  have CD1 := Lib.hid (fun V hV => CDA.out V hV (tm))
                  have CF1 := Lib.hid (fun V => CF.out V (tm))
                  obtain ⟨z, hz⟩ : ∃ z, D.seen l2 (tm) = z := ⟨_, rfl⟩
                  rw [hz] at CA1 CD1 CF1
                  clear hz
                  go_wp2_with (first
                    | (go_at_call 14; (with_reducible refine (CA1.out _ HWk.out).mono ?_); rintro e x0 ⟨rfl, b_⟩; have X0 := Lib.hid (below_up HWk.out HWk.out.size b_); clear b_)
                    | fail)
                  go_wp2_with (first
                    | (go_at_call 15; (with_reducible refine (CD1.out _ (X0.out.alloc X0.out.size _)).mono ?_); rintro e x1 ⟨rfl, b_⟩; have X1 := Lib.hid (below_up (X0.out.alloc X0.out.size _) (Below.size (X0.out.alloc X0.out.size _)) b_); have r1 : rS.rd x1 ⟨x0.heap.size, 0, none⟩ = some z.r := Shp.rd_on (Shp.rd_new _ _ _ _ rfl) b_; clear b_)
                    | fail)
                  have r2 : rS.rd (x1.alloc (.cells (dS.v z.r) 42)) ⟨x0.heap.size, 0, none⟩ = some z.r := Shp.rd_on r1 (below_alloc_ _ _)
                  have s2 : dS.rd (x1.alloc (.cells (dS.v z.r) 42)) ⟨x1.heap.size, 0, none⟩ = some z.r := Shp.rd_new _ _ _ _ rfl
                  have B4 : Hid (Below w6.heap.size w6 (x1.alloc (.cells (dS.v z.r) 42))) := Lib.hid (X1.out.alloc X1.out.size _)
                  obtain ⟨g4, hg4⟩ : ∃ g4, x0.heap.size = g4 := ⟨_, rfl⟩
                  obtain ⟨g5, hg5⟩ : ∃ g5, x1.heap.size = g5 := ⟨_, rfl⟩
                  obtain ⟨W4, hW4⟩ : ∃ W4, x1.alloc (.cells (dS.v z.r) 42) = W4 := ⟨_, rfl⟩
                  rw [hW4] at r2 s2 B4
                  rw [hg4] at r2
                  rw [hg5] at s2
                  try rw [hW4]
                  try rw [hg4]
                  try rw [hg5]
                  have l4 : g4 < W4.heap.size := Shp.rd_lt r2
                  have l5 : g5 < W4.heap.size := Shp.rd_lt s2
                  have CF2 := Lib.hid (fun o : On => CF1.out (ext W4 o))
                  clear r1 hg4 hg5 hW4 X0 X1
                  go_wp2_with fail
                  refine wp_region_ext (by kernel_rfl) (by kernel_rfl) ?_
                  repeat (go_big_quiet_step ((go_at_call 16; with_reducible exact calls_ext (CF2.out _))))
                  refine wpQuiet_nil ?_
                  intro w9 hw9
                  have b6 := ext_to hw9
                  clear hw9
                  go_wp2
                  go_roundw
                  case rel => exact ⟨k + 1, by omega, by go_num, Lib.hid (below_up B4.out B4.out.size b6)⟩
                  case measure => simp [intOf]; omega
              · have k0 : ¬ ((k : Int) ≤ (l2.length : Int)) := by omega
                go_wp2_with (first
                  | (go_at_call 17; (with_reducible refine (CH.out _ HWk.out).mono ?_); rintro e y1 ⟨rfl, b_⟩; have Y1 := Lib.hid (below_up HWk.out HWk.out.size b_); clear b_)
                  | fail)
                go_roundw
                case rel => exact ⟨i + 1, B5, c5, l2, At, ct, by omega, by omega, rfl, by go_num, by omega, Lib.hid (HCk.out.on Y1.out), Lib.hid (below_up HB6.out (hs.out _ HB6.out) Y1.out), Lib.hid (HD6.out.on Y1.out)⟩
                case measure => simp [intOf]; omega
      · have j2 : ¬ ((i : Int) < 30) := by omega
        go_wp2_with (first
          | (go_at_call 18; (with_reducible refine (CK.out _).mono ?_); rintro e y1 ⟨rfl, b_⟩; have Y1 := Lib.hid (below_up HB.out (hs.out _ HB.out) b_); clear b_)
          | fail)
        go_ret
        exact ⟨rfl, (by rw [hg]; exact Y1.out)⟩
    · have j1 : ¬ ((i : Int) < (n : Int)) := by omega
      go_wp2_with (first
        | (go_at_call 18; (with_reducible refine (CK.out _).mono ?_); rintro e y1 ⟨rfl, b_⟩; have Y1 := Lib.hid (below_up HB.out (hs.out _ HB.out) b_); clear b_)
        | fail)
      go_ret
      exact ⟨rfl, (by rw [hg]; exact Y1.out)⟩
end Go.Proofs.Ytcnbdfobhablbaa
