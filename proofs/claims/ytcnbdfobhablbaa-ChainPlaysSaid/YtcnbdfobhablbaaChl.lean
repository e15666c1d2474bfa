/-
  The document's Trim.
-/
import Derived.Test.YtcnbdfobhablbaaChk
set_option linter.unusedVariables false
set_option linter.unusedSimpArgs false
set_option maxRecDepth 100000
namespace Go.Proofs.Ytcnbdfobhablbaa
open Go.RowKit
attribute [local go_sem ↓] Go.wp_at_zero Go.wp_at_succ ld_v lv_v st_v ne_v bd_v bs_v ld_w lv_w st_w ne_w bd_w bs_w ld_r ld_d lv_r lv_d st_r st_d ne_r eq_r ne_d bd_r bd_d
attribute [local go_sem] run_ldv run_lvv run_stv run_nev run_bdv_z run_bdv_d run_bdv_r run_bsv1 run_bsv0 run_ldw run_lvw run_stw run_new run_bdw_3 run_bsw1 run_bsw0 run_ldr run_ldd run_lvr run_lvd run_str run_std run_ner run_eqr run_ned run_bdr0 run_bdd0 run_bdr1 run_bdd1 run_bdd9 Shp.rd_new Shp.rd_old Shp.rd_drew Shp.rd_drewN Shp.rd_set Shp.tn_new Shp.tn_old Shp.tn_drew Shp.tn_drewN setRow_alloc vv_0 vv_1 wv_0 wv_1 run_fdv0 run_fdv1 run_stf Shp.rd_extk cell_ext
theorem D.cnt_pin {l : List D.Vn} (h : D.Srt l) {i : Nat} {v u : D.Vn} (hv : l[i]? = some v) (hu : l[i + 1]? = some u) (ps : List Nat) : (ps.any fun p => decide (D.cnt l p = i + 1)) = D.pin ps v.a u.a := by
  unfold D.pin
  congr 1
  funext p
  have h1 := h.cnt_lt (t := p) hv
  have h2 := h.cnt_lt (t := p) hu
  rw [Bool.eq_iff_iff, decide_eq_true_iff, Bool.and_eq_true, decide_eq_true_iff, decide_eq_true_iff]
  constructor
  · intro e
    exact ⟨h1.2 (by omega), by rcases Nat.lt_or_ge p u.a with h | h; exact h; have := h2.1 h; omega⟩
  · rintro ⟨h3, h4⟩
    have := h1.1 h3
    have : ¬ (i + 1 < D.cnt l p) := fun h => by have := h2.2 h; omega
    omega
theorem D.any_take (ps : List Nat) (f : Nat → Bool) {j p : Nat} (h : ps[j]? = some p) : (ps.take (j + 1)).any f = ((ps.take j).any f || f p) := by
  rw [List.take_add_one, h, List.any_append]; simp
theorem from_w (A : Option Addr) (n c : Nat) (hn : 1 ≤ n) (hc : n ≤ c) : ∃ A1, (∀ W, (Instr.slice 27 (.slice A n c) (some (.int .i64 1)) none none).run Try.prog W = .ok (.slice A1 (n - 1) (c - 1)) W) ∧
    ∀ W l, DR W A n l → DR W A1 (n - 1) (l.drop 1) := by
  have e1 : ((1 : Nat) : Int) = 1 := rfl
  refine ⟨if c = 1 then A else A.map (·.add (1 * 11)), fun W => ?_, fun W l h => ?_⟩
  · have := run_slice_l (P := Try.prog) W 27 A n c (by kernel_rfl) .i64 1 (by omega) (by omega)
    rw [this]
    simp [Result.andThen, sliced, go_sem]
  · rcases Nat.eq_zero_or_pos (n - 1) with h0 | h0
    · rw [h0]
      have : l.drop 1 = [] := List.drop_of_length_le (by have := h.row.len; omega)
      rw [this]
      exact DR.nil _ _
    · rw [if_neg (by omega)]
      refine ⟨⟨by have := h.row.len; simp; omega, fun _ => ?_⟩, fun ad e hn1 => ?_⟩
      · obtain ⟨ad, e, hl, hcell⟩ := h.row.to (by omega)
        subst e
        refine ⟨ad.add 11, rfl, by rw [block_of_add]; exact hl, fun i x hx => ?_⟩
        rw [add_of_add]
        have h1 : l[i + 1]? = some x := by rw [← hx, List.getElem?_drop, Nat.add_comm]
        have := hcell (i + 1) x h1
        rwa [show (i + 1) * wS.n = 11 + i * wS.n by show (i + 1) * 11 = 11 + i * 11; omega] at this
      · cases A with
        | none => simp at e
        | some a0 =>
          simp only [Option.map_some, Option.some.injEq] at e
          subst e
          obtain ⟨cs, hcs⟩ := h.ty a0 rfl (by omega)
          exact ⟨cs, by rw [block_of_add]; exact hcs⟩
set_option maxHeartbeats 16000000 in
theorem dtrim_any {w : World} {A B : Option Addr} {n c m d : Nat} {l : List D.Vn} (hr : DR w A n l) (hs : D.Srt l) (hn : n ≤ 1000) (ps : List Nat) (hp : Row w B m (wds ps)) (hm : m ≤ 1000) :
    Calls Try.prog 8 #[.slice A n c, .slice B m d] w fun e w' => ∃ A' c', e = .returned (.slice A' (D.trm ps l).length c') ∧ DR w' A' (D.trm ps l).length (D.trm ps l) ∧ Below w.heap.size w w' := by
  have hlen : Kept (l.length = n) := ⟨hr.row.len⟩
  have hpl : Kept (ps.length = m) := ⟨by have := hp.len; rwa [wds_len] at this⟩
  have HR := Lib.hid hr
  have HP := Lib.hid hp
  have HS := Lib.hid hs
  have CS := Lib.hid (fun (W : World) (hb : Below w.heap.size w W) p => dseen_any (c := c) (hr.on hb).row hs (by omega) p)
  clear hr hp hs
  go_enter Try.func8, Try.ntmps8
  go_wp2_with fail
  go_loopw [5, 6] (fun x y wx => ∃ (i : Nat) (A' : Option Addr) (c' : Nat) (k : List D.Vn), i ≤ n ∧ y = .int .i64 i ∧ x = .slice A' k.length c' ∧ Hid (Ow 44 11 w.heap.size wx A' k.length c' (wS.rcs k)) ∧ Below w.heap.size w wx ∧ Kept (k ++ D.ned ps (l.drop i) = D.ned ps l ∧ k.length ≤ n)) (fun _ y _ => n - (intOf y).toNat)
  case atStart => exact ⟨0, none, 0, [], Nat.zero_le _, rfl, rfl, Lib.hid (Ow.nil _ 11 (Nat.le_refl _)), Below.refl _ _, ⟨by simp, by simp⟩⟩
  case round =>
    obtain ⟨i, A', c', k, hi, rfl, rfl, HO, hb, HK⟩ := hrel
    by_cases hlt : i < n
    · obtain ⟨v, hv⟩ : ∃ v, l[i]? = some v := ⟨_, List.getElem?_eq_getElem (by have := hlen.out; omega)⟩
      obtain ⟨ad, hAe, hal, hrd⟩ := ((HR.out.on hb).row).rd hv
      subst hAe
      have hrd : wS.rd wr (ad.add (i * 11)) = some v := hrd
      have i0 : (0 : Int) ≤ (i : Int) := by omega
      have i1 : (i : Int) < (n : Int) := by omega
      obtain ⟨bl, hbl⟩ : ∃ bl, decide (i + 1 = n) = bl := ⟨_, rfl⟩
      have hbi : (((i : Int) == (n : Int) - 1)) = bl := by rw [← hbl, Bool.eq_iff_iff]; simp; omega
      have hbd : decide ((i : Int) = (n : Int) - 1) = bl := by rw [← hbl, Bool.eq_iff_iff]; simp; omega
      have HV := Lib.hid hv
      have HBL := Lib.hid hbl
      have HB := Lib.hid hb
      clear hv hbl hb
      go_wp2_with fail
      go_loopw [7, 8] (fun x y wx => ∃ (j : Nat) (q : Bool), j ≤ m ∧ y = .int .i64 j ∧ x = .bool q ∧ Kept (q = (bl || (ps.take j).any fun p => decide (D.cnt l p = i + 1))) ∧ wx = wr) (fun _ y _ => m - (intOf y).toNat)
      case atStart => exact ⟨0, bl, Nat.zero_le _, rfl, rfl, ⟨by simp⟩, rfl⟩
      case round =>
        obtain ⟨j, q, hj, rfl, rfl, HQ, rfl⟩ := hrel
        by_cases hjl : j < m
        · obtain ⟨p, hp⟩ : ∃ p, ps[j]? = some p := ⟨_, List.getElem?_eq_getElem (by have := hpl.out; omega)⟩
          have hany := Lib.hid (D.any_take ps (fun p => decide (D.cnt l p = i + 1)) hp)
          obtain ⟨bd, hBe, hcp⟩ := (HP.out.on HB.out).cell (wds_at hp)
          subst hBe
          have j0 : (0 : Int) ≤ (j : Int) := by omega
          have j1 : (j : Int) < (m : Int) := by omega
          clear hp
          cases q with
          | true =>
            go_wp2
            go_roundw
            case rel => exact ⟨j + 1, true, by omega, by go_num, rfl, ⟨by rw [hany.out, ← Bool.or_assoc, ← HQ.out]; rfl⟩, trivial⟩
            case measure => simp [intOf]; omega
          | false =>
            obtain ⟨bq, hbq⟩ : ∃ bq, decide (D.cnt l p = i + 1) = bq := ⟨_, rfl⟩
            have hq1 : (((D.cnt l p : Int) - 1 == (i : Int))) = bq := by rw [← hbq, Bool.eq_iff_iff]; simp; omega
            have hq2 : decide ((D.cnt l p : Int) - 1 = (i : Int)) = bq := by rw [← hbq, Bool.eq_iff_iff]; simp; omega
            have HBQ := Lib.hid hbq
            have C1 := Lib.hid (CS.out _ HB.out p)
            clear hbq
            go_wp2_with (go_at_call 24; (with_reducible refine C1.out.mono ?_); rintro e w1 ⟨rfl, rfl⟩)
            go_roundw
            case rel => exact ⟨j + 1, bq, by omega, by go_num, rfl, ⟨by rw [hany.out, ← Bool.or_assoc, ← HQ.out, HBQ.out]; rfl⟩, trivial⟩
            case measure => simp [intOf]; omega
        · have hjm : j = m := by omega
          have htk : ps.take j = ps := List.take_of_length_le (by have := hpl.out; omega)
          have hneed : Kept (q = (bl || ps.any fun p => decide (D.cnt l p = i + 1))) := ⟨by have := HQ.out; rwa [htk] at this⟩
          have hstep : Kept (D.ned ps (l.drop i) = if q = true then v :: D.ned ps (l.drop (i + 1)) else D.ned ps (l.drop (i + 1))) := ⟨by
            rw [hneed.out]
            by_cases hlast : i + 1 = n
            · have hb1 : bl = true := by rw [← HBL.out]; exact decide_eq_true hlast
              rw [hb1, Bool.true_or, if_pos rfl]
              exact D.ned_last1 ps HV.out (by have := hlen.out; omega)
            · have hb1 : bl = false := by rw [← HBL.out]; exact decide_eq_false hlast
              obtain ⟨u, hu⟩ : ∃ u, l[i + 1]? = some u := ⟨_, List.getElem?_eq_getElem (by have := hlen.out; omega)⟩
              rw [hb1, Bool.false_or, D.cnt_pin HS.out HV.out hu]
              exact D.ned_next ps HV.out hu⟩
          clear htk hjm
          cases q with
          | true =>
            have hk2 : Kept ((k ++ [v]) ++ D.ned ps (l.drop (i + 1)) = D.ned ps l) := ⟨by have h1 := HK.out.1; rw [hstep.out, if_pos rfl] at h1; rw [List.append_assoc]; exact h1⟩
            have hkl : k.length + 1 ≤ n := by
              have h1 := congrArg List.length hk2.out
              have h2 := D.ned_len ps l
              have h3 := hlen.out
              simp at h1
              omega
            go_wp2_with (at_builtin; refine gapp _ Try.underlying27 dver_info rfl (by decide) (by decide) rfl (.tmp 39) (.tmp 44) rfl rfl (HO.out.alloc (.cells (wS.v v) 44)) rfl (rw_shp wS _ v 44 _ rfl) (wS.one v) (by omega) ?_; intro A5 c5 w5 ho5 hg5 hat5)
            go_roundw
            case rel =>
              refine ⟨i + 1, A5, c5, k ++ [v], by omega, by go_num, by simp, ?_, ?_, ⟨hk2.out, by simp; omega⟩⟩
              · show Ow 44 11 w.heap.size w5 A5 (k ++ [v]).length c5 (wS.rcs (k ++ [v]))
                rw [rcs_snoc, List.length_append]
                exact ho5
              · exact (HB.out.alloc HB.out.size (.cells (wS.v v) 44)).grown hg5 (by have := HB.out.size; simp; omega) fun q hq => (HO.out.lt q hq).1
            case measure => simp [intOf]; omega
          | false =>
            have hk2 : Kept (k ++ D.ned ps (l.drop (i + 1)) = D.ned ps l) := ⟨by have h1 := HK.out.1; rw [hstep.out, if_neg (by decide)] at h1; exact h1⟩
            go_wp2
            go_roundw
            case rel => exact ⟨i + 1, A', c', k, by omega, by go_num, rfl, HO, HB.out, ⟨hk2.out, HK.out.2⟩⟩
            case measure => simp [intOf]; omega
    · have hkn : Kept (k = D.ned ps l) := ⟨by
        have h1 := HK.out.1
        rwa [List.drop_of_length_le (by have := hlen.out; omega), show D.ned ps [] = [] from rfl, List.append_nil] at h1⟩
      have hcap := HO.out.cap
      have HD := Lib.hid (DR.of HO.out)
      have hkl := HK.out.2
      have HT : Kept (k.dropWhile (fun v => v.d && !D.pin ps 0 v.a) = D.trm ps l) := ⟨by rw [hkn.out, D.trm_drop HS.out]⟩
      have HB := Lib.hid hb
      clear hb HO HK hkn
      go_wp2_with fail
      go_loopw [5] (fun x wx => ∃ (A2 : Option Addr) (c2 : Nat) (r : List D.Vn), x = .slice A2 r.length c2 ∧ Hid (DR wr A2 r.length r) ∧ Kept (r.dropWhile (fun v => v.d && !D.pin ps 0 v.a) = D.trm ps l ∧ r.length ≤ c2) ∧ r.length ≤ 1000 ∧ Below wr.heap.size wr wx) (fun x _ => match x with | .slice _ q _ => q | _ => 0)
      case atStart => exact ⟨A', c', k, rfl, HD, ⟨HT.out, hcap.1⟩, by omega, Below.refl _ _⟩
      case round =>
        obtain ⟨A2, c2, r, rfl, HD2, HK2, hr1, hb2⟩ := hrel
        have HB2 := Lib.hid (below_up HB.out HB.out.size hb2)
        have HDx := Lib.hid (HD2.out.on hb2)
        have HB20 := Lib.hid hb2
        clear hb2 HD
        cases r with
        | nil =>
          have HE : Kept (D.trm ps l = []) := ⟨HK2.out.1.symm⟩
          have hl0 : Kept (([] : List D.Vn).length = 0) := ⟨rfl⟩
          go_wp2
          go_ret
          refine ⟨A2, c2, ?_, ?_, HB2.out⟩
          · rw [HE.out]; rfl
          · rw [HE.out]; exact HDx.out
        | cons v r' =>
          obtain ⟨wo, rfl⟩ : ∃ wo : World, wo = wr := ⟨_, rfl⟩
          obtain ⟨nr, hnr⟩ : ∃ nr, r'.length = nr := ⟨_, rfl⟩
          have HNR := Lib.hid hnr
          have hln : (v :: r').length = nr + 1 := by rw [List.length_cons, hnr]
          rw [hln] at HDx HD2 HK2 hr1 ⊢
          obtain ⟨ad, hAe, hal, hrd⟩ := HDx.out.row.rd (i := 0) (x := v) rfl
          subst hAe
          have hrd : wS.rd wo (ad.add (0 * 11)) = some v := hrd
          rw [Nat.zero_mul] at hrd
          have hrd0 : wS.rd wo (ad.add (0 * 11)) = some v := by rw [Nat.zero_mul]; exact hrd
          obtain ⟨q0, q1, -⟩ := Go.Proofs.Ytcnbdfobhablbaa.wr hrd0
          rw [Nat.zero_mul] at q0 q1
          have z0 : ∀ a : Addr, a.add 0 = a := add_zero_
          rw [z0] at q0 q1
          have n0 : (0 : Int) < (nr : Int) + 1 := by omega
          clear hrd hrd0 hnr hln
          cases hd : v.d with
          | false =>
            rw [hd] at q1
            have HE : Kept (D.trm ps l = v :: r') := ⟨by rw [← HK2.out.1, List.dropWhile_cons, hd]; rfl⟩
            go_wp2
            go_ret
            refine ⟨some ad, c2, ?_, ?_, HB2.out⟩
            · rw [HE.out, List.length_cons, HNR.out]; rfl
            · rw [HE.out, List.length_cons, HNR.out]; exact HDx.out
          | true =>
            rw [hd] at q1
            have HV := Lib.hid hd
            obtain ⟨A3, hs3, hd3⟩ := from_w (some ad) (nr + 1) c2 (by omega) HK2.out.2
            have HD3 := Lib.hid (hd3 _ _ HD2.out)
            clear hd3 hd
            go_wp2_with fail
            go_loopw [9] (fun x wx => ∃ (j : Nat), j ≤ m ∧ x = .int .i64 j ∧ Kept (∀ p ∈ ps.take j, ¬ p < v.a) ∧ Below wo.heap.size wo wx) (fun x _ => m - (intOf x).toNat)
            case atStart => exact ⟨0, Nat.zero_le _, rfl, ⟨by simp⟩, Below.refl _ _⟩
            case round =>
              obtain ⟨j, hj, rfl, HJ, hb3⟩ := hrel
              have HB3 := Lib.hid (below_up HB2.out HB2.out.size hb3)
              have HD4 := Lib.hid (HDx.out.on hb3)
              have q0' := cell_kept_ hb3 q0
              by_cases hjl : j < m
              · obtain ⟨p, hp⟩ : ∃ p, ps[j]? = some p := ⟨_, List.getElem?_eq_getElem (by have := hpl.out; omega)⟩
                obtain ⟨bd, hBe, hcp⟩ := (HP.out.on HB3.out).cell (wds_at hp)
                subst hBe
                have j0 : (0 : Int) ≤ (j : Int) := by omega
                have j1 : (j : Int) < (m : Int) := by omega
                have HPJ := Lib.hid hp
                clear hp
                by_cases hlt2 : p < v.a
                · have hpi : (p : Int) < (v.a : Int) := by omega
                  have HE : Kept (D.trm ps l = v :: r') := ⟨by
                    have : D.pin ps 0 v.a = true := D.pin_iff.2 ⟨p, List.mem_of_getElem? HPJ.out, Nat.zero_le _, hlt2⟩
                    rw [← HK2.out.1, List.dropWhile_cons, HV.out, this]; rfl⟩
                  clear hlt2
                  go_wp2_with fail
                  go_quiet (fail)
                  go_wp2
                  go_ret
                  refine ⟨some ad, c2, ?_, ?_, below_dn HB3.out _⟩
                  · rw [HE.out, List.length_cons, HNR.out]; rfl
                  · rw [HE.out, List.length_cons, HNR.out]; exact HD4.out.on (below_dn (Below.refl _ _) _)
                · have hpi : ¬ ((p : Int) < (v.a : Int)) := by omega
                  have HN : Kept (∀ p ∈ ps.take (j + 1), ¬ p < v.a) := ⟨fun q hq => by
                    rw [List.take_add_one, HPJ.out] at hq
                    rcases List.mem_append.1 hq with hq | hq
                    · exact HJ.out q hq
                    · simp at hq; rw [hq]; exact hlt2⟩
                  clear hlt2
                  go_wp2_with fail
                  go_quiet (fail)
                  go_wp2
                  go_roundw
                  case rel => exact ⟨j + 1, by omega, by go_num, HN, below_dn hb3 _⟩
                  case measure => simp [intOf]; omega
              · have htk : ps.take j = ps := List.take_of_length_le (by have := hpl.out; omega)
                have hpin : D.pin ps 0 v.a = false := by
                  cases hq : D.pin ps 0 v.a with
                  | false => rfl
                  | true =>
                    obtain ⟨p, hp, _, h2⟩ := D.pin_iff.1 hq
                    exact absurd h2 (HJ.out p (by rw [htk]; exact hp))
                have HN : Kept (r'.dropWhile (fun v => v.d && !D.pin ps 0 v.a) = D.trm ps l ∧ r'.length ≤ c2 - 1) := ⟨by
                  have h1 := HK2.out.1
                  rw [List.dropWhile_cons, HV.out, hpin] at h1
                  exact ⟨h1, by have := HK2.out.2; have := HNR.out; omega⟩⟩
                have hd5 := HD3.out
                rw [show (v :: r').drop 1 = r' from rfl, Nat.add_sub_cancel] at hd5
                have HD5 := Lib.hid hd5
                have hs4 := hs3
                rw [Nat.add_sub_cancel] at hs4
                clear htk hpin hd5 hs3
                go_wp2
                refine ⟨⟨A3, c2 - 1, r', by rw [HNR.out], ?_, HN, by have := HNR.out; omega, below_up HB20.out HB20.out.size hb3⟩, ?_⟩
                · show DR _ A3 r'.length r'
                  rw [HNR.out]; exact HD5.out
                · show nr < nr + 1
                  omega
end Go.Proofs.Ytcnbdfobhablbaa
