/-
  Whichever way keys are put: the law.
-/
import Derived.Test.YtphbjkcplpfogaaCtn
import Derived.Test.YtphbjkcplpfogaaCbr
import Derived.Test.YtphbjkcplpfogaaCkn
set_option linter.unusedVariables false
set_option linter.unusedSimpArgs false
set_option maxRecDepth 100000
namespace Go.Proofs.Ytphbjkcplpfogaa
open Go.RowKit
attribute [local go_sem ↓] Go.wp_at_zero Go.wp_at_succ ld_k lv_k st_k eq_k ne_k bd_k ld_b lv_b st_b eq_b ne_b bd_25 ld_r lv_r st_rk eq_rk ne_rk bd_r ld_p lv_p st_px bd_p Nm.ld_a Nm.ld_n Nm.st_a Nm.st_n Nm.eq_a Nm.eq_n Nm.ne_a Nm.ne_n Nm.lv_a Nm.lv_n ld_a ld_n st_a st_n eq_a eq_n ne_a ne_n lv_a lv_n ld_l lv_l st_l bd_l bd_n bs_l bs_k
attribute [local go_sem] run_ldk run_lvk run_stk run_eqk run_nek run_bdk_z run_ldb run_lvb run_stb run_eqb run_neb run_ldr run_lvr run_strk run_eqrk run_nerk run_bdr_z run_ldp run_lvp run_stpx Nm.run_ld_a Nm.run_ld_n Nm.run_st_n Nm.run_eq_a Nm.run_eq_n Nm.run_ne_a Nm.run_ne_n Nm.run_lv_a Nm.run_lv_n Nm.rd_new Nm.rd_old Nm.rd_drew Nm.rd_drewN run_ld_a run_ld_n run_sw_a run_sw_n run_eq_a run_eq_n run_ne_a run_ne_n run_lv_a run_lv_n st_z ne_z eq_z rd_new rd_old rd_drew rd_drewN Shp.rd_new Shp.rd_old Shp.rd_drew Shp.rd_drewN Shp.rd_set Shp.tn_new Shp.tn_old Shp.tn_drew Shp.tn_drewN tn_new tn_old tn_drew tn_drewN rd_set setRow_alloc run_stn3 run_stt15 run_lvl run_ldl run_stl run_bdl run_bdn run_bdn0 run_bsl run_bsk Shp.rd_extk cell_ext
noncomputable def rmU (x y : Value) : Sem Value := binOp .rem 73 x y
noncomputable def rmI (x y : Value) : Sem Value := binOp .rem 3 x y
theorem rm_u (x y : Value) : binOp .rem 73 x y = rmU x y := rfl
theorem rm_i (x y : Value) : binOp .rem 3 x y = rmI x y := rfl
theorem run_rmU {a : Int} {m M : Nat} (h0 : ¬ ((m : Int) = 0)) (h : a.tmod (m : Int) = (M : Int)) (hM : M < 100) (W : World) : (rmU (.int .u64 a) (.int .u64 (m : Int))).run Try.prog W = .ok (.int .u64 (M : Nat)) W := by
  have h0' : ¬ m = 0 := by omega
  simp [rmU, binOp_rem, Op.intDiv, h0', h, go_sem]
theorem run_rmI {a : Int} {m M : Nat} (h0 : ¬ ((m : Int) = 0)) (h : a.tmod (m : Int) = (M : Int)) (hM : M < 100) (W : World) : (rmI (.int .i64 a) (.int .i64 (m : Int))).run Try.prog W = .ok (.int .i64 (M : Nat)) W := by
  have h0' : ¬ m = 0 := by omega
  simp [rmI, binOp_rem, Op.intDiv, h0', h, go_sem]
/-- A literal slice of one key. -/
noncomputable def bslk (n : Nat) (ps : Array (Nat × Value)) : Sem Value := Instr.buildSlice 55 n ps
theorem bsl_k (n : Nat) (ps : Array (Nat × Value)) : Instr.buildSlice 55 n ps = bslk n ps := rfl
theorem fill_k (z : Array Value) (hz : z.size = 25) : ∀ l : List Value, l.length = 25 → Instr.fill (fun i => some (i * 25, 25)) ((Array.range (1 * 25)).map (z[· % z.size]!)) [(0, .agg l.toArray)] = some l.toArray
  | [x0, x1, x2, x3, x4, x5, x6, x7, x8, x9, x10, x11, x12, x13, x14, x15, x16, x17, x18, x19, x20, x21, x22, x23, x24], _ => by
    simp [go_sem]
theorem run_bslk (w : World) (x : D.Ky) : (bslk 1 #[(0, .agg (kS.v x))]).run Try.prog w = .ok (.slice (some ⟨w.heap.size, 0, none⟩) 1 1) (w.alloc (.cells (kS.v x) 30)) := by
  have hf := fill_k (kS.v D.zK) (kS.v_size _) (kS.cs x) (kS.len x)
  have hz : (zeroValue 30).run Try.prog w = .ok (.agg (kS.v D.zK)) w := by kernel_rfl
  simp only [bslk, Instr.buildSlice, Sem.run_bind, Try.runUnderlying55, Result.andThen_ok, Try.sizeOf30]
  simp only [Nat.reduceMul, Nat.reducePow, Nat.reduceLT, gt_iff_lt, Nat.reduceEqDiff, if_false, Sem.run_pure, Sem.run_bind, hz, Result.andThen_ok, Value.cells] at hf ⊢
  rw [show (kS.v x) = (kS.cs x).toArray from rfl, hf]
  rfl
def zP : D.Px := ⟨D.zK, 0, by decide⟩
theorem run_bdp0 (w : World) : (bdp #[]).run Try.prog w = .ok (.agg (pS.v zP)) w := by kernel_rfl
theorem kyo_all {w : World} {g : Nat} {o : Option Tk} (h : TR w g o) : kyo zP o = (Cr.Tr.lso o).map (·.1) := by
  rw [kyo_eq h]
  congr 1
  refine List.filter_eq_self.2 fun e _ => ?_
  simp [D.has, zP, D.upto]
attribute [local go_sem ↓] rm_u rm_i bsl_k
attribute [local go_sem] run_bslk run_bdp0
theorem upto_run_k (A : Option Addr) (n c k : Nat) (z : Int) (hz : z = k) (hk : k ≤ c) : ∃ A1, (∀ W, (Instr.slice 55 (.slice A n c) none (some (.int .i64 z)) none).run Try.prog W = .ok (.slice A1 k c) W) ∧
    ∀ W (xs : List D.Ky), Shp.Row kS W A n xs → k ≤ n → Shp.Row kS W A1 k (xs.take k) := by
  subst hz
  refine ⟨A, fun W => ?_, fun W xs h hk => h.take hk⟩
  rw [run_slice_h W 55 A n c (by kernel_rfl) .i64 k (by omega) (by omega)]
  have : ∀ a : Addr, a.add 0 = a := add_zero_
  simp [Result.andThen, sliced, go_sem]
set_option maxHeartbeats 16000000 in
theorem law_order (A1 : Option Addr) (n1 c1 : Nat) (l1 : List D.Ky) (A2 : Option Addr) (n2 c2 : Nat) (l2 : List D.Ky) (tn : Int) (w : World) (hr1 : Shp.Row kS w A1 n1 l1) (hc1 : n1 ≤ c1) (hx1 : c1 ≤ maxLen) (hr2 : Shp.Row kS w A2 n2 l2) (hc2 : n2 ≤ c2) (hx2 : c2 ≤ maxLen) : Calls Try.prog 6 #[.slice A1 n1 c1, .slice A2 n2 c2, .int .i64 tn] w fun e w' => e = .returned (.bool true) ∧ Below w.heap.size w w' := by
  have CN := Lib.hid (fun w => new_any w)
  have CK := Lib.hid (fun w => known_any w)
  obtain ⟨m1, hm1, h301, rm1⟩ := min_run n1 30 30 rfl
  obtain ⟨m2, hm2, h302, rm2⟩ := min_run n2 30 30 rfl
  obtain ⟨B1, ru1, rr1⟩ := upto_run_k A1 n1 c1 m1 m1 rfl (by omega)
  obtain ⟨B2, ru2, rr2⟩ := upto_run_k A2 n2 c2 m2 m2 rfl (by omega)
  have HR1 := Lib.hid (rr1 w l1 hr1 hm1)
  have HR2 := Lib.hid (rr2 w l2 hr2 hm2)
  obtain ⟨ks, hks⟩ : ∃ ks, l1.take m1 = ks := ⟨_, rfl⟩
  obtain ⟨ms, hms⟩ : ∃ ms, l2.take m2 = ms := ⟨_, rfl⟩
  rw [hks] at HR1
  rw [hms] at HR2
  obtain ⟨U, hUU⟩ := turn_u tn
  have HUU := Lib.hid hUU
  clear hUU
  obtain ⟨M, hM⟩ : ∃ M : Nat, U % m1 = M := ⟨_, rfl⟩
  have HM := Lib.hid hM
  clear hM
  clear hr1 hr2 rr1 rr2 hks hms hx1 hx2
  go_enter Try.func6, Try.ntmps6
  go_wp2_with fail
  go_cut [0, 1] from 22 (fun s0 s1 wx => s0 = .slice B1 m1 c1 ∧ s1 = .slice B2 m2 c2 ∧ Below w.heap.size w wx)
  case first =>
    refine wp_region_noPanic ?_
    refine wp_region_held_drew (S := fun W => Below w.heap.size w W) (by kernel_rfl) (Below.refl _ _).drew (fun sd => ?_)
    refine takeS 0 (some 22) ?vq0 (by kernel_rfl) (by kernel_rfl) (by kernel_rfl) (by kernel_rfl) (fun _ _ _ h => h) (by rfl) ?hyq0 sd ?restq0
    case hyq0 => (intro o ho W hW; simp only [List.getElem?_toArray, List.getElem?_cons_succ, List.getElem?_cons_zero, Option.some.injEq] at ho; subst ho; (try dsimp only at hW); skip; go_simp; try rfl)
    try simp only [Act.put, List.setIfInBounds_toArray, List.set_cons_zero, List.set_cons_succ]
    refine takeS 1 (some 23) ?vq1 (by kernel_rfl) (by kernel_rfl) (by kernel_rfl) (by kernel_rfl) (fun _ _ _ h => h) (by rfl) ?hyq1 sd ?restq1
    case hyq1 => (intro o ho W hW; simp only [List.getElem?_toArray, List.getElem?_cons_succ, List.getElem?_cons_zero, Option.some.injEq] at ho; subst ho; (try dsimp only at hW); skip; go_simp; try rfl)
    try simp only [Act.put, List.setIfInBounds_toArray, List.set_cons_zero, List.set_cons_succ]
    refine takeS 2 (some 24) ?vq2 (by kernel_rfl) (by kernel_rfl) (by kernel_rfl) (by kernel_rfl) (fun _ _ _ h => h) (by rfl) ?hyq2 sd ?restq2
    case hyq2 => (intro o ho W hW; simp only [List.getElem?_toArray, List.getElem?_cons_succ, List.getElem?_cons_zero, Option.some.injEq] at ho; subst ho; (try dsimp only at hW); skip; go_simp; try rfl)
    try simp only [Act.put, List.setIfInBounds_toArray, List.set_cons_zero, List.set_cons_succ]
    refine takeS 3 (some 25) (.int .i64 (m1 : Nat)) (by kernel_rfl) (by kernel_rfl) (by kernel_rfl) (by kernel_rfl) (fun _ _ _ h => h) (by rfl) ?hyq3 sd ?restq3
    case hyq3 => (intro o ho W hW; simp only [List.getElem?_toArray, List.getElem?_cons_succ, List.getElem?_cons_zero, Option.some.injEq] at ho; subst ho; (try dsimp only at hW); skip; go_simp; try rfl)
    try simp only [Act.put, List.setIfInBounds_toArray, List.set_cons_zero, List.set_cons_succ]
    refine takeS 4 (some 26) (.slice B1 m1 c1) (by kernel_rfl) (by kernel_rfl) (by kernel_rfl) (by kernel_rfl) (fun _ _ _ h => h) (by rfl) ?hyq4 sd ?restq4
    case hyq4 => (intro o ho W hW; simp only [List.getElem?_toArray, List.getElem?_cons_succ, List.getElem?_cons_zero, Option.some.injEq] at ho; subst ho; (try dsimp only at hW); skip; go_simp; try rfl)
    try simp only [Act.put, List.setIfInBounds_toArray, List.set_cons_zero, List.set_cons_succ]
    refine takeS 5 (some 27) ?vq5 (by kernel_rfl) (by kernel_rfl) (by kernel_rfl) (by kernel_rfl) (fun _ _ _ h => h) (by rfl) ?hyq5 sd ?restq5
    case hyq5 => (intro o ho W hW; simp only [List.getElem?_toArray, List.getElem?_cons_succ, List.getElem?_cons_zero, Option.some.injEq] at ho; subst ho; (try dsimp only at hW); skip; go_simp; try rfl)
    try simp only [Act.put, List.setIfInBounds_toArray, List.set_cons_zero, List.set_cons_succ]
    refine takeS 6 (some 28) ?vq6 (by kernel_rfl) (by kernel_rfl) (by kernel_rfl) (by kernel_rfl) (fun _ _ _ h => h) (by rfl) ?hyq6 sd ?restq6
    case hyq6 => (intro o ho W hW; simp only [List.getElem?_toArray, List.getElem?_cons_succ, List.getElem?_cons_zero, Option.some.injEq] at ho; subst ho; (try dsimp only at hW); skip; go_simp; try rfl)
    try simp only [Act.put, List.setIfInBounds_toArray, List.set_cons_zero, List.set_cons_succ]
    refine takeS 7 (some 29) ?vq7 (by kernel_rfl) (by kernel_rfl) (by kernel_rfl) (by kernel_rfl) (fun _ _ _ h => h) (by rfl) ?hyq7 sd ?restq7
    case hyq7 => (intro o ho W hW; simp only [List.getElem?_toArray, List.getElem?_cons_succ, List.getElem?_cons_zero, Option.some.injEq] at ho; subst ho; (try dsimp only at hW); skip; go_simp; try rfl)
    try simp only [Act.put, List.setIfInBounds_toArray, List.set_cons_zero, List.set_cons_succ]
    refine takeS 8 (some 30) (.int .i64 (m2 : Nat)) (by kernel_rfl) (by kernel_rfl) (by kernel_rfl) (by kernel_rfl) (fun _ _ _ h => h) (by rfl) ?hyq8 sd ?restq8
    case hyq8 => (intro o ho W hW; simp only [List.getElem?_toArray, List.getElem?_cons_succ, List.getElem?_cons_zero, Option.some.injEq] at ho; subst ho; (try dsimp only at hW); skip; go_simp; try rfl)
    try simp only [Act.put, List.setIfInBounds_toArray, List.set_cons_zero, List.set_cons_succ]
    refine takeS 9 (some 31) (.slice B2 m2 c2) (by kernel_rfl) (by kernel_rfl) (by kernel_rfl) (by kernel_rfl) (fun _ _ _ h => h) (by rfl) ?hyq9 sd ?restq9
    case hyq9 => (intro o ho W hW; simp only [List.getElem?_toArray, List.getElem?_cons_succ, List.getElem?_cons_zero, Option.some.injEq] at ho; subst ho; (try dsimp only at hW); skip; go_simp; try rfl)
    try simp only [Act.put, List.setIfInBounds_toArray, List.set_cons_zero, List.set_cons_succ]
    refine takeS 10 (some 0) ?vq10 (by kernel_rfl) (by kernel_rfl) (by kernel_rfl) (by kernel_rfl) (fun _ _ _ h => h) (by rfl) ?hyq10 sd ?restq10
    case hyq10 => (intro o ho W hW; simp only [List.getElem?_toArray, List.getElem?_cons_succ, List.getElem?_cons_zero, Option.some.injEq] at ho; subst ho; (try dsimp only at hW); skip; go_simp; try rfl)
    try simp only [Act.put, List.setIfInBounds_toArray, List.set_cons_zero, List.set_cons_succ]
    refine takeS 11 (some 1) ?vq11 (by kernel_rfl) (by kernel_rfl) (by kernel_rfl) (by kernel_rfl) (fun _ _ _ h => h) (by rfl) ?hyq11 sd ?restq11
    case hyq11 => (intro o ho W hW; simp only [List.getElem?_toArray, List.getElem?_cons_succ, List.getElem?_cons_zero, Option.some.injEq] at ho; subst ho; (try dsimp only at hW); skip; go_simp; try rfl)
    try simp only [Act.put, List.setIfInBounds_toArray, List.set_cons_zero, List.set_cons_succ]
    refine wpAnyH_done (by kernel_rfl) ?_ _
    refine NoPanic.normal ?_
    go_wp2_with fail
    go_meet
    exact ⟨rfl, rfl, (Below.refl _ _).drew⟩
  case rest =>
    obtain ⟨rfl, rfl, b0⟩ := hcut
    have r1 := HR1.out.on b0
    have r2 := HR2.out.on b0
    clear rm1 rm2 ru1 ru2
    go_wp2_with (first
      | (go_at_call 7; (with_reducible refine (CN.out wc).mono ?_); rintro e w1 ⟨rfl, ta1, b1⟩)
      | (go_at_call 7; (with_reducible refine (CN.out w1).mono ?_); rintro e w2 ⟨rfl, tb2, b2⟩))
    obtain ⟨ga, hga⟩ : ∃ ga, wc.heap.size = ga := ⟨_, rfl⟩
    obtain ⟨gb, hgb⟩ : ∃ gb, w1.heap.size = gb := ⟨_, rfl⟩
    have T0 := two_new ta1 b1 tb2 b2
    rw [hga, hgb] at T0
    try rw [hga]
    try rw [hgb]
    have hga' : wc.heap.size ≤ ga := Nat.le_of_eq hga
    have HBL : Hid (∀ (W : World) (oa ob : Option Tk), Two ga wc W ga oa gb ob → Below w.heap.size w W) := Lib.hid (fun W oa ob h => b0.trans (h.bel.mono (Nat.le_trans b0.size hga')))
    have RW1 := Lib.hid (fun (W : World) (oa ob : Option Tk) (h : Two ga wc W ga oa gb ob) => h.row r1 hga')
    have RW2 := Lib.hid (fun (W : World) (oa ob : Option Tk) (h : Two ga wc W ga oa gb ob) => h.row r2 hga')
    have hkl := r1.len
    have hml := r2.len
    clear ta1 tb2 b1 b2 r1 r2 hga hgb HR1 HR2
    have TT0 := Lib.hid T0
    clear T0
    go_loopw [10] (fun i wr => ∃ j : Nat, j ≤ m1 ∧ i = .int .i64 j ∧ ∃ oa, Two ga wc wr ga oa gb none ∧ Cr.Tr.lso oa = pts (ks.take j) 0 []) (fun i _ => m1 - (intOf i).toNat)
    case atStart => exact ⟨0, Nat.zero_le _, rfl, none, TT0.out, rfl⟩
    case round =>
      clear TT0
      obtain ⟨j, hj, rfl, oa, hT, hl⟩ := hrel
      have HT := Lib.hid hT
      have HL := Lib.hid hl
      clear hl
      by_cases hlt : j < m1
      · have i0 : (0 : Int) ≤ (j : Int) := by omega
        have i1 : (j : Int) < (m1 : Int) := by omega
        obtain ⟨k, hk⟩ : ∃ k, ks[j]? = some k := ⟨_, List.getElem?_eq_getElem (by omega)⟩
        obtain ⟨ad, rfl, hal, hrd⟩ := (RW1.out _ _ _ hT).rd hk
        have hrd : kS.rd wr (ad.add (j * 25)) = some k := hrd
        have hsz : (Cr.Tr.lso oa).length < 1000 := by
          have := len_pts (List.Pairwise.nil : Cr.Up []) HL.out
          simp only [List.length_nil, List.length_take] at this
          omega
        have CP := Lib.hid (put_any ga oa k 0 wr hT.ta hsz)
        have HK := Lib.hid hk
        clear hT hsz hk
        go_wp2_with (go_at_call 12; (with_reducible refine CP.out.mono ?_); rintro e w3 ⟨rfl, oa', hP⟩; have HP := Lib.hid hP; clear hP)
        go_roundw
        case rel =>
          refine ⟨j + 1, by omega, by go_num, oa', HT.out.put HP.out, ?_⟩
          rw [HP.out.ls, HL.out, take_succ_keys HK.out, pts_app]
        case measure => simp [intOf]; omega
      · obtain rfl : m1 = j := by omega
        have HA := Lib.hid (show Cr.Tr.lso oa = pts ks 0 [] by rw [HL.out, List.take_of_length_le (by omega)])
        clear hT HL hlt hj
        go_wp2_with fail
        go_loopw [11] (fun i wr => ∃ j : Nat, j ≤ m2 ∧ i = .int .i64 j ∧ ∃ ob, Two ga wc wr ga oa gb ob ∧ Cr.Tr.lso ob = pts (ms.take j) 1 []) (fun i _ => m2 - (intOf i).toNat)
        case atStart => exact ⟨0, Nat.zero_le _, rfl, none, HT.out, rfl⟩
        case round =>
          clear HT
          obtain ⟨i, hi, rfl, ob, hT, hl⟩ := hrel
          have HT := Lib.hid hT
          have HL := Lib.hid hl
          clear hl
          by_cases hlt : i < m2
          · have i0 : (0 : Int) ≤ (i : Int) := by omega
            have i1 : (i : Int) < (m2 : Int) := by omega
            obtain ⟨k, hk⟩ : ∃ k, ms[i]? = some k := ⟨_, List.getElem?_eq_getElem (by omega)⟩
            obtain ⟨ad, rfl, hal, hrd⟩ := (RW2.out _ _ _ hT).rd hk
            have hrd : kS.rd wr (ad.add (i * 25)) = some k := hrd
            have hsz : (Cr.Tr.lso ob).length < 1000 := by
              have := len_pts (List.Pairwise.nil : Cr.Up []) HL.out
              simp only [List.length_nil, List.length_take] at this
              omega
            have CP := Lib.hid (put_any gb ob k 1 wr hT.tb hsz)
            have HK := Lib.hid hk
            clear hT hsz hk
            go_wp2_with (go_at_call 12; (with_reducible refine CP.out.mono ?_); rintro e w3 ⟨rfl, ob', hP⟩; have HP := Lib.hid hP; clear hP)
            go_roundw
            case rel =>
              refine ⟨i + 1, by omega, by go_num, ob', (HT.out.swap.put HP.out).swap, ?_⟩
              rw [HP.out.ls, HL.out, take_succ_keys HK.out, pts_app]
            case measure => simp [intOf]; omega
          · obtain rfl : m2 = i := by omega
            have HB := Lib.hid (show Cr.Tr.lso ob = pts ms 1 [] by rw [HL.out, List.take_of_length_le (by omega)])
            clear hT HL hlt hi
            go_wp2_with fail
            go_loopw [12] (fun i wr => ∃ j : Nat, j ≤ m1 ∧ i = .int .i64 j ∧ ∃ ob', Two ga wc wr ga oa gb ob' ∧ Cr.Tr.lso ob' = pts (rot ks M j) 0 (pts ms 1 [])) (fun i _ => m1 - (intOf i).toNat)
            case atStart => exact ⟨0, Nat.zero_le _, rfl, ob, HT.out, HB.out⟩
            case round =>
              clear HT HB
              obtain ⟨j, hj, rfl, ob', hT, hl⟩ := hrel
              have HT := Lib.hid hT
              have HL := Lib.hid hl
              clear hl
              by_cases hlt : j < m1
              · have i0 : (0 : Int) ≤ (j : Int) := by omega
                have i1 : (j : Int) < (m1 : Int) := by omega
                have hne : ¬ ((m1 : Int) = 0) := by omega
                obtain ⟨hMlt, hU, hw1, hw2, ht2, htl⟩ := turn_facts m1 M U j HM.out hlt h301
                obtain ⟨t, ht⟩ : ∃ t, (j + M) % m1 = t := ⟨_, rfl⟩
                rw [ht] at ht2 htl
                have i2 : (0 : Int) ≤ (t : Int) := Int.natCast_nonneg t
                have i3 : (t : Int) < (m1 : Int) := Int.ofNat_lt.2 htl
                obtain ⟨k, hk⟩ : ∃ k, ks[t]? = some k := ⟨_, List.getElem?_eq_getElem (Nat.lt_of_lt_of_le htl (Nat.le_of_eq hkl.symm))⟩
                obtain ⟨ad, rfl, hal, hrd⟩ := (RW1.out _ _ _ hT).rd hk
                have hrd : kS.rd wr (ad.add (t * 25)) = some k := hrd
                have hj30 : j ≤ 30 := Nat.le_trans hj h301
                have hm30 : ms.length ≤ 30 := Nat.le_trans (Nat.le_of_eq hml) h302
                have hsz := rot_small HL.out hj30 hm30
                have CP := Lib.hid (put_any gb ob' k 0 wr hT.tb hsz)
                have HRT := Lib.hid (rot_next hkl ht hk)
                have R1 : ∀ W : World, (rmU (.int .u64 (IntKind.u64.wrap tn)) (.int .u64 (m1 : Int))).run Try.prog W = .ok (.int .u64 (M : Nat)) W := fun W => run_rmU hne (by rw [HUU.out]; exact hU) (Nat.lt_of_lt_of_le hMlt (Nat.le_trans h301 (by decide))) W
                have R2 : ∀ W : World, (rmI (.int .i64 ((j : Int) + (M : Int))) (.int .i64 (m1 : Int))).run Try.prog W = .ok (.int .i64 (t : Nat)) W := fun W => run_rmI hne ht2 (Nat.lt_of_lt_of_le htl (Nat.le_trans h301 (by decide))) W
                have hM30 : M ≤ 30 := Nat.le_of_lt (Nat.lt_of_lt_of_le hMlt h301)
                clear hT hsz hk ht hU hw1 hw2 ht2 hj30 hm30
                go_wp2_with (go_at_call 12; (with_reducible refine CP.out.mono ?_); rintro e w3 ⟨rfl, ob'', hP⟩; have HP := Lib.hid hP; clear hP)
                go_roundw
                case rel =>
                  refine ⟨j + 1, hlt, by go_num, ob'', (HT.out.swap.put HP.out).swap, ?_⟩
                  rw [HP.out.ls, HL.out, HRT.out, pts_app]
                case measure =>
                  simp [intOf]; omega
              · obtain rfl : m1 = j := by omega
                have HB := Lib.hid (show Cr.Tr.lso ob' = pts (rot ks M m1) 0 (pts ms 1 []) from HL.out)
                clear hT HL hlt hj
                go_wp2_with fail
                obtain ⟨L0, hL0⟩ : ∃ L0, pts (rot ks M m1) 0 (pts ms 1 []) = L0 := ⟨_, rfl⟩
                rw [hL0] at HB
                have HL0 := Lib.hid hL0
                clear hL0
                go_loopw [13] (fun i wr => ∃ j : Nat, j ≤ m2 ∧ i = .int .i64 j ∧ ∃ ob'', Two ga wc wr ga oa gb ob'' ∧ Cr.Tr.lso ob'' = dps ks (ms.take j) L0) (fun i _ => m2 - (intOf i).toNat)
                case atStart => exact ⟨0, Nat.zero_le _, rfl, ob', HT.out, HB.out⟩
                case round =>
                  clear HT HB
                  obtain ⟨i, hi, rfl, ob2, hT, hl⟩ := hrel
                  have HT := Lib.hid hT
                  have HL := Lib.hid hl
                  clear hl
                  by_cases hlt : i < m2
                  · have i0 : (0 : Int) ≤ (i : Int) := by omega
                    have i1 : (i : Int) < (m2 : Int) := by omega
                    obtain ⟨k, hk⟩ : ∃ k, ms[i]? = some k := ⟨_, List.getElem?_eq_getElem (by omega)⟩
                    have HK := Lib.hid hk
                    clear hT hk
                    go_wp2_with fail
                    go_loopw [14, 15] (fun f q wx => ∃ (j : Nat) (b : Bool), j ≤ m1 ∧ f = .bool b ∧ q = .int .i64 j ∧ Two ga wc wx ga oa gb ob2 ∧ Kept (b = (ks.take j).contains k)) (fun _ q _ => m1 - (intOf q).toNat)
                    case atStart => exact ⟨0, false, Nat.zero_le _, rfl, rfl, HT.out, ⟨by simp⟩⟩
                    case round =>
                      clear HT
                      obtain ⟨j, b, hj, rfl, rfl, hT, HF⟩ := hrel
                      have HT := Lib.hid hT
                      by_cases hlt2 : j < m1
                      · have k0 : (0 : Int) ≤ (j : Int) := by omega
                        have k1 : (j : Int) < (m1 : Int) := by omega
                        obtain ⟨q, hq⟩ : ∃ q, ks[j]? = some q := ⟨_, List.getElem?_eq_getElem (by omega)⟩
                        obtain ⟨a1, rfl, hal1, hr1⟩ := (RW1.out _ _ _ hT).rd hq
                        obtain ⟨a2, rfl, hal2, hr2⟩ := (RW2.out _ _ _ hT).rd HK.out
                        have hr1 : kS.rd wr (a1.add (j * 25)) = some q := hr1
                        have hr2 : kS.rd wr (a2.add (i * 25)) = some k := hr2
                        have l1 := Shp.rd_lt hr1
                        have l2 := Shp.rd_lt hr2
                        have HF2 : Kept (∀ b2 : Bool, b2 = (b || decide (q = k)) → b2 = (ks.take (j + 1)).contains k) := ⟨by
                          intro b2 h2
                          rw [take_succ_keys hq, h2, HF.out, Bool.eq_iff_iff]
                          simp only [Bool.or_eq_true, List.contains_append]
                          refine or_congr_right ?_
                          by_cases h : q = k
                          · subst h; simp
                          · have h' : k ≠ q := Ne.symm h
                            simp [h, h']⟩
                        clear hq hT
                        cases b with
                        | false =>
                          by_cases hqk : q = k
                          · subst hqk
                            go_wp2_with fail
                            refine wp_region_ext (by kernel_rfl) (by kernel_rfl) ?_
                            repeat (go_big_quiet_step (fail))
                            refine wpQuiet_nil ?_
                            intro w6 hw6
                            have b6 := ext_to hw6
                            clear hw6
                            go_wp2
                            go_roundw
                            case rel => exact ⟨j + 1, true, by omega, by simp [Shp.sm], by go_num, HT.out.on b6 HT.out.sz, ⟨HF2.out _ (by simp [Shp.sm])⟩⟩
                            case measure => simp [intOf]; omega
                          · have hqi : decide (q = k) = false := decide_eq_false hqk
                            go_wp2_with fail
                            refine wp_region_ext (by kernel_rfl) (by kernel_rfl) ?_
                            repeat (go_big_quiet_step (fail))
                            refine wpQuiet_nil ?_
                            intro w6 hw6
                            have b6 := ext_to hw6
                            clear hw6
                            go_wp2
                            go_roundw
                            case rel => exact ⟨j + 1, false, by omega, by simp [Shp.sm, hqk], by go_num, HT.out.on b6 HT.out.sz, ⟨HF2.out _ (by simp [Shp.sm, hqk])⟩⟩
                            case measure => simp [intOf]; omega
                        | true =>
                          go_wp2_with fail
                          refine wp_region_ext (by kernel_rfl) (by kernel_rfl) ?_
                          repeat (go_big_quiet_step (fail))
                          refine wpQuiet_nil ?_
                          intro w6 hw6
                          have b6 := ext_to hw6
                          clear hw6
                          go_wp2
                          go_roundw
                          case rel => exact ⟨j + 1, true, by omega, by simp, by go_num, HT.out.on b6 HT.out.sz, ⟨HF2.out _ (by simp)⟩⟩
                          case measure => simp [intOf]; omega
                      · obtain rfl : m1 = j := by omega
                        have HF2 : Kept (b = ks.contains k) := ⟨by rw [HF.out, List.take_of_length_le (by omega)]⟩
                        have HTK := Lib.hid (take_succ_keys HK.out)
                        clear hlt2 HF hT
                        cases b with
                        | true =>
                          go_wp2_with fail
                          go_roundw
                          case rel =>
                            refine ⟨i + 1, by omega, by go_num, ob2, HT.out, ?_⟩
                            rw [HTK.out, dps_app, if_pos (by have := HF2.out; simpa using this)]; exact HL.out
                          case measure => simp [intOf]; omega
                        | false =>
                          obtain ⟨a2, rfl, hal2, hr2⟩ := (RW2.out _ _ _ HT.out).rd HK.out
                          have hr2 : kS.rd wr (a2.add (i * 25)) = some k := hr2
                          have b9 := below_alloc_ wr (.cells (kS.v k) 30)
                          have CDL := Lib.hid (del_one gb ob2 k wr.heap.size 1 (wr.alloc (.cells (kS.v k) 30)) (HT.out.tb.on b9) (Shp.rd_new _ _ _ _ rfl) (fun hq => by have := HT.out.tb.all_lt _ hq; omega))
                          have HT9 := Lib.hid (HT.out.on b9 HT.out.sz)
                          clear b9
                          go_wp2_with (go_at_call 10; (with_reducible refine CDL.out.mono ?_); rintro e w3 ⟨rfl, ob3, hD⟩; have HD := Lib.hid hD; clear hD)
                          go_roundw
                          case rel =>
                            refine ⟨i + 1, by omega, by go_num, ob3, (HT9.out.swap.del HD.out).swap, ?_⟩
                            rw [HTK.out, dps_app, if_neg (by have := HF2.out; simpa using this), HD.out.ls, HL.out]; rfl
                          case measure => simp [intOf]; omega
                  · obtain rfl : m2 = i := by omega
                    have HB : Hid (Cr.Tr.lso ob2 = pts ks 0 []) := Lib.hid (by
                      rw [HL.out, List.take_of_length_le (by omega), ← HL0.out, ← hkl]
                      exact order_eq ks ms _ (fun k => rot_mem ks M k))
                    clear hT HL hlt hi
                    obtain ⟨L, hL⟩ : ∃ L, pts ks 0 [] = L := ⟨_, rfl⟩
                    have HU : Hid (Cr.Up L) := Lib.hid (by rw [← hL]; exact pts_up 0 ks [] List.Pairwise.nil)
                    have hLn : L.length ≤ 30 := by rw [← hL]; have := pts_len 0 ks [] List.Pairwise.nil; simp only [List.length_nil] at this; omega
                    have HA2 : Hid (Cr.Tr.lso oa = L) := Lib.hid (HA.out.trans hL)
                    have HB2 : Hid (Cr.Tr.lso ob2 = L) := Lib.hid (HB.out.trans hL)
                    clear HA HB hL
                    obtain ⟨X, hX⟩ : ∃ X, L.map (·.1) = X := ⟨_, rfl⟩
                    obtain ⟨nx, hnx⟩ : ∃ nx, X.length = nx := ⟨_, rfl⟩
                    have hXl : L.length = nx := by rw [← hnx, ← hX, List.length_map]
                    have CKA : Hid (∀ (g : Nat) (o : Option Tk) (W : World), TR W g o → Cr.Tr.lso o = L → Calls Try.prog 18 #[.pointer (some ⟨g, 0, none⟩), .agg (pS.v zP)] W fun e w' => ∃ (A : Option Addr) (c : Nat), e = .returned (.slice A nx c) ∧ Shp.Row kS w' A nx X ∧ Below W.heap.size W w') := Lib.hid (fun g o W hT hl => by
                      have h := keys_any g o zP W hT
                      rw [kyo_all hT, hl, hX, hnx] at h
                      refine h.mono ?_
                      rintro e w' ⟨A, c, rfl, ho, hb⟩
                      exact ⟨A, c, rfl, Shp.Own.to_row (S := kS) (base := W.heap.size) (e := 30) (c := c) ⟨ho.row, ho.base⟩, hb⟩)
                    go_wp2_with (first
                      | (go_at_call 18; (with_reducible refine (CKA.out ga oa _ HT.out.ta.tr HA2.out).mono ?_); rintro e w4 ⟨Ax, cx, rfl, rx, b_⟩; have HT4 := Lib.hid (HT.out.on b_ HT.out.sz); have RX := Lib.hid rx; clear rx b_)
                      | fail)
                    go_wp2_with (first
                      | (go_at_call 18; (with_reducible refine (CKA.out gb ob2 _ HT4.out.tb.tr HB2.out).mono ?_); rintro e w5 ⟨Ay, cy, rfl, ry, b_⟩; have HT5 := Lib.hid (HT4.out.on b_ HT4.out.sz); have RX5 := Lib.hid (RX.out.on b_); have RY5 := Lib.hid ry; clear ry b_)
                      | fail)
                    clear HT HT4 RX CKA
                    have CLA : Hid (Calls Try.prog 28 #[.pointer (some ⟨ga, 0, none⟩)] w5 fun e w' => e = .returned (.int .i64 (nx : Nat)) ∧ w5 = w') := Lib.hid (by have := len_any ga oa w5 HT5.out.ta; rw [HA2.out, hXl] at this; exact this)
                    have CLB : Hid (Calls Try.prog 28 #[.pointer (some ⟨gb, 0, none⟩)] w5 fun e w' => e = .returned (.int .i64 (nx : Nat)) ∧ w5 = w') := Lib.hid (by have := len_any gb ob2 w5 HT5.out.tb; rw [HB2.out, hXl] at this; exact this)
                    have HXL := Lib.hid (show L.map (·.1) = X ∧ X.length = nx from ⟨hX, hnx⟩)
                    have hnx30 : nx ≤ 30 := by omega
                    clear hX hnx hXl hLn
                    go_wp2_with (first
                      | (go_at_call 28; (with_reducible refine CLA.out.mono ?_); rintro e w5b ⟨rfl, rfl⟩)
                      | (go_at_call 28; (with_reducible refine CLB.out.mono ?_); rintro e w5b ⟨rfl, rfl⟩))
                    go_loopw [18] (fun i wx => ∃ j : Nat, j ≤ nx ∧ i = .int .i64 j ∧ Hid (Below w5.heap.size w5 wx)) (fun i _ => nx - (intOf i).toNat)
                    case atStart => exact ⟨0, Nat.zero_le _, rfl, Lib.hid (Below.refl _ _)⟩
                    case round =>
                      obtain ⟨j, hj, rfl, HW5⟩ := hrel
                      by_cases hlt : j < nx
                      · have i0 : (0 : Int) ≤ (j : Int) := by omega
                        have i1 : (j : Int) < (nx : Int) := by omega
                        obtain ⟨k, hk⟩ : ∃ k, X[j]? = some k := ⟨_, List.getElem?_eq_getElem (by have := HXL.out.2; omega)⟩
                        obtain ⟨ax, rfl, hal1, hr1⟩ := (RX5.out.on HW5.out).rd hk
                        obtain ⟨ay, rfl, hal2, hr2⟩ := (RY5.out.on HW5.out).rd hk
                        have hr1 : kS.rd wr (ax.add (j * 25)) = some k := hr1
                        have hr2 : kS.rd wr (ay.add (j * 25)) = some k := hr2
                        have l1 := Shp.rd_lt hr1
                        have l2 := Shp.rd_lt hr2
                        have HK := Lib.hid hk
                        clear hk
                        have hsm : kS.sm k k = true := by simp [Shp.sm]
                        obtain ⟨bs, hbs⟩ : ∃ bs, Cr.brs k L = bs := ⟨_, rfl⟩
                        obtain ⟨nb, hnb⟩ : ∃ nb, bs.length = nb := ⟨_, rfl⟩
                        have CBR : Hid (∀ (g : Nat) (o : Option Tk) (W : World), TR W g o → Cr.Tr.lso o = L → Calls Try.prog 26 #[.pointer (some ⟨g, 0, none⟩), .agg (kS.v k)] W fun e w' => ∃ (A : Option Addr) (c : Nat), e = .returned (.slice A nb c) ∧ Rw 1 w' A nb (ivs bs) ∧ nb ≤ maxLen ∧ Below W.heap.size W w') := Lib.hid (fun g o W hT hl => by
                          have h := branch_any g o k W hT
                          rw [hl, hbs, hnb] at h
                          refine h.mono ?_
                          rintro e w' ⟨A, c, rfl, ho, hb⟩
                          exact ⟨A, c, rfl, ho.to_row, Nat.le_trans ho.cap.1 ho.cap.2, hb⟩)
                        have HNB := Lib.hid hnb
                        clear hbs hnb
                        by_cases h0 : 0 < j
                        · obtain ⟨p, hp⟩ : ∃ p, j = p + 1 := ⟨j - 1, by omega⟩
                          have e1 : (j : Int) - 1 = (p : Int) := by omega
                          have ij : (0 : Int) < (j : Int) := by omega
                          have p0 : (0 : Int) ≤ (p : Int) := by omega
                          have p1 : (p : Int) < (nx : Int) := by omega
                          have p30 : p ≤ 30 := by omega
                          obtain ⟨kp, hkp⟩ : ∃ kp, X[p]? = some kp := ⟨_, List.getElem?_eq_getElem (by have := HXL.out.2; omega)⟩
                          obtain ⟨ax2, hax, hal3, hr0⟩ := (RX5.out.on HW5.out).rd hkp
                          obtain rfl : ax2 = ax := (Option.some.inj hax).symm
                          have hr0 : kS.rd wr (ax2.add (p * 25)) = some kp := hr0
                          have l3 := Shp.rd_lt hr0
                          have CLS : Hid (∀ o : On, Calls Try.prog 29 #[.agg (kS.v kp), .agg (kS.v k)] (ext wr o) fun e w' => e = .returned (.bool true) ∧ Below (ext wr o).heap.size (ext wr o) w') := Lib.hid (fun o => by
                            have h := kless_any kp k (ext wr o)
                            have hlt : Cr.lt kp k = true := by
                              have hk2 := HK.out
                              rw [← HXL.out.1, List.getElem?_map] at hk2 hkp
                              obtain ⟨u, hu, rfl⟩ := Option.map_eq_some_iff.1 hk2
                              obtain ⟨v, hv, rfl⟩ := Option.map_eq_some_iff.1 hkp
                              obtain ⟨hu1, rfl⟩ := List.getElem?_eq_some_iff.1 hu
                              obtain ⟨hv1, rfl⟩ := List.getElem?_eq_some_iff.1 hv
                              exact List.pairwise_iff_getElem.1 HU.out p j hv1 hu1 (by omega)
                            rw [D.lt_cmp, hlt] at h
                            exact h)
                          clear hp hkp hax
                          go_wp2_with fail
                          refine wp_region_ext (by kernel_rfl) (by kernel_rfl) ?_
                          repeat (go_big_quiet_step ((go_at_call 29; with_reducible exact calls_ext (CLS.out _))))
                          refine wpQuiet_nil ?_
                          intro w6 hw6
                          have b6 := ext_to hw6
                          clear hw6
                          go_wp2_with fail
                          have r1w := Shp.rd_on hr1 b6
                          obtain ⟨w7, hw7⟩ : ∃ w7, w6.drew = w7 := ⟨_, rfl⟩
                          have s7 : Below w6.heap.size w6 w7 := by rw [← hw7]; exact (Below.refl _ _).drew
                          have HTr : Hid (∀ W, Below w6.heap.size w6 W → Two ga wc W ga oa gb ob2) := Lib.hid (fun W hW => (HT5.out.on HW5.out HT5.out.sz).on (b6.trans (hW.mono b6.size)) (by have := (HT5.out.on HW5.out HT5.out.sz).sz; exact this))
                          refine wp_region_noPanic ?_
                          refine wp_region_held_drew (S := fun W => Below w6.heap.size w6 W) (by kernel_rfl) (Below.refl _ _).drew (fun sd => ?_)
                          rw [hw7]
                          clear hw7 sd
                          refine takeS 0 (some 168) ?vza0 (by kernel_rfl) (by kernel_rfl) (by kernel_rfl) (by kernel_rfl) (fun _ _ _ h => h) (by rfl) ?hyza0 s7 ?restza0
                          case hyza0 => (intro o ho W hW; simp only [List.getElem?_toArray, List.getElem?_cons_succ, List.getElem?_cons_zero, Option.some.injEq] at ho; subst ho; (try dsimp only at hW); skip; go_simp; try rfl)
                          try simp only [Act.put, List.setIfInBounds_toArray, List.set_cons_zero, List.set_cons_succ]
                          refine takeS 1 (some 169) ?vza1 (by kernel_rfl) (by kernel_rfl) (by kernel_rfl) (by kernel_rfl) (fun _ _ _ h => h) (by rfl) ?hyza1 s7 ?restza1
                          case hyza1 => (intro o ho W hW; simp only [List.getElem?_toArray, List.getElem?_cons_succ, List.getElem?_cons_zero, Option.some.injEq] at ho; subst ho; (try dsimp only at hW); skip; go_simp; try rfl)
                          try simp only [Act.put, List.setIfInBounds_toArray, List.set_cons_zero, List.set_cons_succ]
                          refine takeS 2 (some 170) ?vza2 (by kernel_rfl) (by kernel_rfl) (by kernel_rfl) (by kernel_rfl) (fun _ _ _ h => h) (by rfl) ?hyza2 s7 ?restza2
                          case hyza2 => (intro o ho W hW; simp only [List.getElem?_toArray, List.getElem?_cons_succ, List.getElem?_cons_zero, Option.some.injEq] at ho; subst ho; (try dsimp only at hW); skip; go_simp; try rfl)
                          try simp only [Act.put, List.setIfInBounds_toArray, List.set_cons_zero, List.set_cons_succ]
                          refine takeS 3 (some 171) ?vza3 (by kernel_rfl) (by kernel_rfl) (by kernel_rfl) (by kernel_rfl) (fun _ _ _ h => h) (by rfl) ?hyza3 s7 ?restza3
                          case hyza3 => (intro o ho W hW; simp only [List.getElem?_toArray, List.getElem?_cons_succ, List.getElem?_cons_zero, Option.some.injEq] at ho; subst ho; (try dsimp only at hW); skip; go_simp; try rfl)
                          try simp only [Act.put, List.setIfInBounds_toArray, List.set_cons_zero, List.set_cons_succ]
                          refine takeS 4 (some 172) ?vza4 (by kernel_rfl) (by kernel_rfl) (by kernel_rfl) (by kernel_rfl) (fun _ _ _ h => h) (by rfl) ?hyza4 s7 ?restza4
                          case hyza4 => (intro o ho W hW; simp only [List.getElem?_toArray, List.getElem?_cons_succ, List.getElem?_cons_zero, Option.some.injEq] at ho; subst ho; (try dsimp only at hW); have f_ := Shp.rd_on r1w hW; go_simp; try rfl)
                          try simp only [Act.put, List.setIfInBounds_toArray, List.set_cons_zero, List.set_cons_succ]
                          refine takeS 6 (some 174) ?vza6 (by kernel_rfl) (by kernel_rfl) (by kernel_rfl) (by kernel_rfl) (fun _ _ _ h => h) (by rfl) ?hyza6 s7 ?restza6
                          case hyza6 => (intro o ho W hW; simp only [List.getElem?_toArray, List.getElem?_cons_succ, List.getElem?_cons_zero, Option.some.injEq] at ho; subst ho; (try dsimp only at hW); skip; go_simp; try rfl)
                          try simp only [Act.put, List.setIfInBounds_toArray, List.set_cons_zero, List.set_cons_succ]
                          refine takeS 7 (some 175) ?vza7 (by kernel_rfl) (by kernel_rfl) (by kernel_rfl) (by kernel_rfl) (fun _ _ _ h => h) (by rfl) ?hyza7 s7 ?restza7
                          case hyza7 => (intro o ho W hW; simp only [List.getElem?_toArray, List.getElem?_cons_succ, List.getElem?_cons_zero, Option.some.injEq] at ho; subst ho; (try dsimp only at hW); skip; go_simp; try rfl)
                          try simp only [Act.put, List.setIfInBounds_toArray, List.set_cons_zero, List.set_cons_succ]
                          refine takeS 8 (some 176) ?vza8 (by kernel_rfl) (by kernel_rfl) (by kernel_rfl) (by kernel_rfl) (fun _ _ _ h => h) (by rfl) ?hyza8 s7 ?restza8
                          case hyza8 => (intro o ho W hW; simp only [List.getElem?_toArray, List.getElem?_cons_succ, List.getElem?_cons_zero, Option.some.injEq] at ho; subst ho; (try dsimp only at hW); skip; go_simp; try rfl)
                          try simp only [Act.put, List.setIfInBounds_toArray, List.set_cons_zero, List.set_cons_succ]
                          refine takeS 9 (some 177) ?vza9 (by kernel_rfl) (by kernel_rfl) (by kernel_rfl) (by kernel_rfl) (fun _ _ _ h => h) (by rfl) ?hyza9 s7 ?restza9
                          case hyza9 => (intro o ho W hW; simp only [List.getElem?_toArray, List.getElem?_cons_succ, List.getElem?_cons_zero, Option.some.injEq] at ho; subst ho; (try dsimp only at hW); skip; go_simp; try rfl)
                          try simp only [Act.put, List.setIfInBounds_toArray, List.set_cons_zero, List.set_cons_succ]
                          refine takeS 10 (some 178) ?vza10 (by kernel_rfl) (by kernel_rfl) (by kernel_rfl) (by kernel_rfl) (fun _ _ _ h => h) (by rfl) ?hyza10 s7 ?restza10
                          case hyza10 => (intro o ho W hW; simp only [List.getElem?_toArray, List.getElem?_cons_succ, List.getElem?_cons_zero, Option.some.injEq] at ho; subst ho; (try dsimp only at hW); have f_ := Shp.rd_on r1w hW; go_simp; try rfl)
                          try simp only [Act.put, List.setIfInBounds_toArray, List.set_cons_zero, List.set_cons_succ]
                          refine nextS 5 (by kernel_rfl) (by rfl) (fun o ho K hK => ?_)
                          simp only [List.getElem?_toArray, List.getElem?_cons_succ, List.getElem?_cons_zero, Option.some.injEq] at ho; subst ho
                          go_simp
                          (go_at_call 26; (with_reducible refine (CBR.out ga oa _ (HTr.out _ s7).ta.tr HA2.out).mono ?_); rintro e w8 ⟨A8, c8, rfl, h8, hm8, b8⟩)
                          have s8 := below_up s7 s7.size b8
                          refine hK.out _ _ s8 (fun _ => ?_)
                          clear hK K
                          try simp only [Act.put, List.setIfInBounds_toArray, List.set_cons_zero, List.set_cons_succ]
                          refine nextS 11 (by kernel_rfl) (by rfl) (fun o ho K hK => ?_)
                          simp only [List.getElem?_toArray, List.getElem?_cons_succ, List.getElem?_cons_zero, Option.some.injEq] at ho; subst ho
                          go_simp
                          (go_at_call 26; (with_reducible refine (CBR.out gb ob2 _ (HTr.out _ s8).tb.tr HB2.out).mono ?_); rintro e w9 ⟨A9, c9, rfl, h9, -, b9⟩)
                          have s9 := below_up s8 s8.size b9
                          have h8' := h8.on b9
                          refine hK.out _ _ s9 (fun _ => ?_)
                          clear hK K
                          try simp only [Act.put, List.setIfInBounds_toArray, List.set_cons_zero, List.set_cons_succ]
                          refine takeS 12 (some 19) ?vza12 (by kernel_rfl) (by kernel_rfl) (by kernel_rfl) (by kernel_rfl) (fun _ _ _ h => h) (by rfl) ?hyza12 s9 ?restza12
                          case hyza12 => (intro o ho W hW; simp only [List.getElem?_toArray, List.getElem?_cons_succ, List.getElem?_cons_zero, Option.some.injEq] at ho; subst ho; (try dsimp only at hW); skip; go_simp; try rfl)
                          try simp only [Act.put, List.setIfInBounds_toArray, List.set_cons_zero, List.set_cons_succ]
                          refine takeS 13 (some 20) ?vza13 (by kernel_rfl) (by kernel_rfl) (by kernel_rfl) (by kernel_rfl) (fun _ _ _ h => h) (by rfl) ?hyza13 s9 ?restza13
                          case hyza13 => (intro o ho W hW; simp only [List.getElem?_toArray, List.getElem?_cons_succ, List.getElem?_cons_zero, Option.some.injEq] at ho; subst ho; (try dsimp only at hW); skip; go_simp; try rfl)
                          try simp only [Act.put, List.setIfInBounds_toArray, List.set_cons_zero, List.set_cons_succ]
                          refine wpAnyH_done (by kernel_rfl) ?_ _
                          refine NoPanic.normal ?_
                          have H8 := Lib.hid h8'
                          have H9 := Lib.hid h9
                          have hnb64 : nb ≤ 9223372036854775807 := by simp only [maxLen] at hm8; omega
                          have HB9 : Hid (Below w5.heap.size w5 w9) := Lib.hid (below_up (below_up HW5.out HW5.out.size b6) (Below.size (below_up HW5.out HW5.out.size b6)) s9)
                          clear h8 h8' h9 hm8 s7 s8 s9 b8 b9 r1w hr1 hr2 l1 l2 b6 HTr CBR
                          go_wp2_with fail
                          go_loopw [21] (fun i wx => ∃ q : Nat, q ≤ nb ∧ i = .int .i64 q ∧ Hid (Below w9.heap.size w9 wx)) (fun i _ => nb - (intOf i).toNat)
                          case atStart => exact ⟨0, Nat.zero_le _, rfl, Lib.hid (Below.refl _ _)⟩
                          case round =>
                            obtain ⟨q, hq, rfl, HW9⟩ := hrel
                            by_cases hqn : q < nb
                            · have q0 : (0 : Int) ≤ (q : Int) := by omega
                              have q1 : (q : Int) < (nb : Int) := by omega
                              obtain ⟨u, hu⟩ : ∃ u, bs[q]? = some u := ⟨_, List.getElem?_eq_getElem (by have := HNB.out; omega)⟩
                              have hu2 : (ivs bs)[q]? = some (.int .i64 (u : Nat)) := by simp [ivs, hu]
                              obtain ⟨a8, rfl, hl8, hc8⟩ := (H8.out.on HW9.out).cell hu2
                              obtain ⟨a9, rfl, hl9, hc9⟩ := (H9.out.on HW9.out).cell hu2
                              have e8 : (a8.add q).block < wr.heap.size := by rw [block_of_add]; exact hl8
                              have e9 : (a9.add q).block < wr.heap.size := by rw [block_of_add]; exact hl9
                              clear hu hu2
                              go_wp2_with fail
                              refine wp_region_ext (by kernel_rfl) (by kernel_rfl) ?_
                              repeat (go_big_quiet_step (fail))
                              refine wpQuiet_nil ?_
                              intro w10 hw10
                              have b10 := ext_to hw10
                              clear hw10
                              go_wp2
                              go_roundw
                              case rel => exact ⟨q + 1, by omega, by go_num, Lib.hid (below_up HW9.out HW9.out.size b10)⟩
                              case measure => simp [intOf]; omega
                            · have q1 : ¬ ((q : Int) < (nb : Int)) := by omega
                              go_wp2_with fail
                              go_roundw
                              case rel => exact ⟨j + 1, by omega, by go_num, Lib.hid (below_up HB9.out HB9.out.size HW9.out)⟩
                              case measure => simp [intOf]; omega
                        · have ij : ¬ ((0 : Int) < (j : Int)) := by omega
                          go_wp2_with fail
                          refine wp_region_ext (by kernel_rfl) (by kernel_rfl) ?_
                          repeat (go_big_quiet_step (fail))
                          refine wpQuiet_nil ?_
                          intro w6 hw6
                          have b6 := ext_to hw6
                          clear hw6
                          go_wp2_with fail
                          have r1w := Shp.rd_on hr1 b6
                          obtain ⟨w7, hw7⟩ : ∃ w7, w6.drew = w7 := ⟨_, rfl⟩
                          have s7 : Below w6.heap.size w6 w7 := by rw [← hw7]; exact (Below.refl _ _).drew
                          have HTr : Hid (∀ W, Below w6.heap.size w6 W → Two ga wc W ga oa gb ob2) := Lib.hid (fun W hW => (HT5.out.on HW5.out HT5.out.sz).on (b6.trans (hW.mono b6.size)) (by have := (HT5.out.on HW5.out HT5.out.sz).sz; exact this))
                          refine wp_region_noPanic ?_
                          refine wp_region_held_drew (S := fun W => Below w6.heap.size w6 W) (by kernel_rfl) (Below.refl _ _).drew (fun sd => ?_)
                          rw [hw7]
                          clear hw7 sd
                          refine takeS 0 (some 168) ?vzb0 (by kernel_rfl) (by kernel_rfl) (by kernel_rfl) (by kernel_rfl) (fun _ _ _ h => h) (by rfl) ?hyzb0 s7 ?restzb0
                          case hyzb0 => (intro o ho W hW; simp only [List.getElem?_toArray, List.getElem?_cons_succ, List.getElem?_cons_zero, Option.some.injEq] at ho; subst ho; (try dsimp only at hW); skip; go_simp; try rfl)
                          try simp only [Act.put, List.setIfInBounds_toArray, List.set_cons_zero, List.set_cons_succ]
                          refine takeS 1 (some 169) ?vzb1 (by kernel_rfl) (by kernel_rfl) (by kernel_rfl) (by kernel_rfl) (fun _ _ _ h => h) (by rfl) ?hyzb1 s7 ?restzb1
                          case hyzb1 => (intro o ho W hW; simp only [List.getElem?_toArray, List.getElem?_cons_succ, List.getElem?_cons_zero, Option.some.injEq] at ho; subst ho; (try dsimp only at hW); skip; go_simp; try rfl)
                          try simp only [Act.put, List.setIfInBounds_toArray, List.set_cons_zero, List.set_cons_succ]
                          refine takeS 2 (some 170) ?vzb2 (by kernel_rfl) (by kernel_rfl) (by kernel_rfl) (by kernel_rfl) (fun _ _ _ h => h) (by rfl) ?hyzb2 s7 ?restzb2
                          case hyzb2 => (intro o ho W hW; simp only [List.getElem?_toArray, List.getElem?_cons_succ, List.getElem?_cons_zero, Option.some.injEq] at ho; subst ho; (try dsimp only at hW); skip; go_simp; try rfl)
                          try simp only [Act.put, List.setIfInBounds_toArray, List.set_cons_zero, List.set_cons_succ]
                          refine takeS 3 (some 171) ?vzb3 (by kernel_rfl) (by kernel_rfl) (by kernel_rfl) (by kernel_rfl) (fun _ _ _ h => h) (by rfl) ?hyzb3 s7 ?restzb3
                          case hyzb3 => (intro o ho W hW; simp only [List.getElem?_toArray, List.getElem?_cons_succ, List.getElem?_cons_zero, Option.some.injEq] at ho; subst ho; (try dsimp only at hW); skip; go_simp; try rfl)
                          try simp only [Act.put, List.setIfInBounds_toArray, List.set_cons_zero, List.set_cons_succ]
                          refine takeS 4 (some 172) ?vzb4 (by kernel_rfl) (by kernel_rfl) (by kernel_rfl) (by kernel_rfl) (fun _ _ _ h => h) (by rfl) ?hyzb4 s7 ?restzb4
                          case hyzb4 => (intro o ho W hW; simp only [List.getElem?_toArray, List.getElem?_cons_succ, List.getElem?_cons_zero, Option.some.injEq] at ho; subst ho; (try dsimp only at hW); have f_ := Shp.rd_on r1w hW; go_simp; try rfl)
                          try simp only [Act.put, List.setIfInBounds_toArray, List.set_cons_zero, List.set_cons_succ]
                          refine takeS 6 (some 174) ?vzb6 (by kernel_rfl) (by kernel_rfl) (by kernel_rfl) (by kernel_rfl) (fun _ _ _ h => h) (by rfl) ?hyzb6 s7 ?restzb6
                          case hyzb6 => (intro o ho W hW; simp only [List.getElem?_toArray, List.getElem?_cons_succ, List.getElem?_cons_zero, Option.some.injEq] at ho; subst ho; (try dsimp only at hW); skip; go_simp; try rfl)
                          try simp only [Act.put, List.setIfInBounds_toArray, List.set_cons_zero, List.set_cons_succ]
                          refine takeS 7 (some 175) ?vzb7 (by kernel_rfl) (by kernel_rfl) (by kernel_rfl) (by kernel_rfl) (fun _ _ _ h => h) (by rfl) ?hyzb7 s7 ?restzb7
                          case hyzb7 => (intro o ho W hW; simp only [List.getElem?_toArray, List.getElem?_cons_succ, List.getElem?_cons_zero, Option.some.injEq] at ho; subst ho; (try dsimp only at hW); skip; go_simp; try rfl)
                          try simp only [Act.put, List.setIfInBounds_toArray, List.set_cons_zero, List.set_cons_succ]
                          refine takeS 8 (some 176) ?vzb8 (by kernel_rfl) (by kernel_rfl) (by kernel_rfl) (by kernel_rfl) (fun _ _ _ h => h) (by rfl) ?hyzb8 s7 ?restzb8
                          case hyzb8 => (intro o ho W hW; simp only [List.getElem?_toArray, List.getElem?_cons_succ, List.getElem?_cons_zero, Option.some.injEq] at ho; subst ho; (try dsimp only at hW); skip; go_simp; try rfl)
                          try simp only [Act.put, List.setIfInBounds_toArray, List.set_cons_zero, List.set_cons_succ]
                          refine takeS 9 (some 177) ?vzb9 (by kernel_rfl) (by kernel_rfl) (by kernel_rfl) (by kernel_rfl) (fun _ _ _ h => h) (by rfl) ?hyzb9 s7 ?restzb9
                          case hyzb9 => (intro o ho W hW; simp only [List.getElem?_toArray, List.getElem?_cons_succ, List.getElem?_cons_zero, Option.some.injEq] at ho; subst ho; (try dsimp only at hW); skip; go_simp; try rfl)
                          try simp only [Act.put, List.setIfInBounds_toArray, List.set_cons_zero, List.set_cons_succ]
                          refine takeS 10 (some 178) ?vzb10 (by kernel_rfl) (by kernel_rfl) (by kernel_rfl) (by kernel_rfl) (fun _ _ _ h => h) (by rfl) ?hyzb10 s7 ?restzb10
                          case hyzb10 => (intro o ho W hW; simp only [List.getElem?_toArray, List.getElem?_cons_succ, List.getElem?_cons_zero, Option.some.injEq] at ho; subst ho; (try dsimp only at hW); have f_ := Shp.rd_on r1w hW; go_simp; try rfl)
                          try simp only [Act.put, List.setIfInBounds_toArray, List.set_cons_zero, List.set_cons_succ]
                          refine nextS 5 (by kernel_rfl) (by rfl) (fun o ho K hK => ?_)
                          simp only [List.getElem?_toArray, List.getElem?_cons_succ, List.getElem?_cons_zero, Option.some.injEq] at ho; subst ho
                          go_simp
                          (go_at_call 26; (with_reducible refine (CBR.out ga oa _ (HTr.out _ s7).ta.tr HA2.out).mono ?_); rintro e w8 ⟨A8, c8, rfl, h8, hm8, b8⟩)
                          have s8 := below_up s7 s7.size b8
                          refine hK.out _ _ s8 (fun _ => ?_)
                          clear hK K
                          try simp only [Act.put, List.setIfInBounds_toArray, List.set_cons_zero, List.set_cons_succ]
                          refine nextS 11 (by kernel_rfl) (by rfl) (fun o ho K hK => ?_)
                          simp only [List.getElem?_toArray, List.getElem?_cons_succ, List.getElem?_cons_zero, Option.some.injEq] at ho; subst ho
                          go_simp
                          (go_at_call 26; (with_reducible refine (CBR.out gb ob2 _ (HTr.out _ s8).tb.tr HB2.out).mono ?_); rintro e w9 ⟨A9, c9, rfl, h9, -, b9⟩)
                          have s9 := below_up s8 s8.size b9
                          have h8' := h8.on b9
                          refine hK.out _ _ s9 (fun _ => ?_)
                          clear hK K
                          try simp only [Act.put, List.setIfInBounds_toArray, List.set_cons_zero, List.set_cons_succ]
                          refine takeS 12 (some 19) ?vzb12 (by kernel_rfl) (by kernel_rfl) (by kernel_rfl) (by kernel_rfl) (fun _ _ _ h => h) (by rfl) ?hyzb12 s9 ?restzb12
                          case hyzb12 => (intro o ho W hW; simp only [List.getElem?_toArray, List.getElem?_cons_succ, List.getElem?_cons_zero, Option.some.injEq] at ho; subst ho; (try dsimp only at hW); skip; go_simp; try rfl)
                          try simp only [Act.put, List.setIfInBounds_toArray, List.set_cons_zero, List.set_cons_succ]
                          refine takeS 13 (some 20) ?vzb13 (by kernel_rfl) (by kernel_rfl) (by kernel_rfl) (by kernel_rfl) (fun _ _ _ h => h) (by rfl) ?hyzb13 s9 ?restzb13
                          case hyzb13 => (intro o ho W hW; simp only [List.getElem?_toArray, List.getElem?_cons_succ, List.getElem?_cons_zero, Option.some.injEq] at ho; subst ho; (try dsimp only at hW); skip; go_simp; try rfl)
                          try simp only [Act.put, List.setIfInBounds_toArray, List.set_cons_zero, List.set_cons_succ]
                          refine wpAnyH_done (by kernel_rfl) ?_ _
                          refine NoPanic.normal ?_
                          have H8 := Lib.hid h8'
                          have H9 := Lib.hid h9
                          have hnb64 : nb ≤ 9223372036854775807 := by simp only [maxLen] at hm8; omega
                          have HB9 : Hid (Below w5.heap.size w5 w9) := Lib.hid (below_up (below_up HW5.out HW5.out.size b6) (Below.size (below_up HW5.out HW5.out.size b6)) s9)
                          clear h8 h8' h9 hm8 s7 s8 s9 b8 b9 r1w hr1 hr2 l1 l2 b6 HTr CBR
                          go_wp2_with fail
                          go_loopw [21] (fun i wx => ∃ q : Nat, q ≤ nb ∧ i = .int .i64 q ∧ Hid (Below w9.heap.size w9 wx)) (fun i _ => nb - (intOf i).toNat)
                          case atStart => exact ⟨0, Nat.zero_le _, rfl, Lib.hid (Below.refl _ _)⟩
                          case round =>
                            obtain ⟨q, hq, rfl, HW9⟩ := hrel
                            by_cases hqn : q < nb
                            · have q0 : (0 : Int) ≤ (q : Int) := by omega
                              have q1 : (q : Int) < (nb : Int) := by omega
                              obtain ⟨u, hu⟩ : ∃ u, bs[q]? = some u := ⟨_, List.getElem?_eq_getElem (by have := HNB.out; omega)⟩
                              have hu2 : (ivs bs)[q]? = some (.int .i64 (u : Nat)) := by simp [ivs, hu]
                              obtain ⟨a8, rfl, hl8, hc8⟩ := (H8.out.on HW9.out).cell hu2
                              obtain ⟨a9, rfl, hl9, hc9⟩ := (H9.out.on HW9.out).cell hu2
                              have e8 : (a8.add q).block < wr.heap.size := by rw [block_of_add]; exact hl8
                              have e9 : (a9.add q).block < wr.heap.size := by rw [block_of_add]; exact hl9
                              clear hu hu2
                              go_wp2_with fail
                              refine wp_region_ext (by kernel_rfl) (by kernel_rfl) ?_
                              repeat (go_big_quiet_step (fail))
                              refine wpQuiet_nil ?_
                              intro w10 hw10
                              have b10 := ext_to hw10
                              clear hw10
                              go_wp2
                              go_roundw
                              case rel => exact ⟨q + 1, by omega, by go_num, Lib.hid (below_up HW9.out HW9.out.size b10)⟩
                              case measure => simp [intOf]; omega
                            · have q1 : ¬ ((q : Int) < (nb : Int)) := by omega
                              go_wp2_with fail
                              go_roundw
                              case rel => exact ⟨j + 1, by omega, by go_num, Lib.hid (below_up HB9.out HB9.out.size HW9.out)⟩
                              case measure => simp [intOf]; omega
                      · have i1 : ¬ ((j : Int) < (nx : Int)) := by omega
                        go_wp2_with (first
                          | (go_at_call 16; (with_reducible refine (CK.out _).mono ?_); rintro e y1 ⟨rfl, b_⟩)
                          | fail)
                        go_ret
                        exact ⟨rfl, below_up (below_up (HBL.out _ _ _ HT5.out) (Below.size (HBL.out _ _ _ HT5.out)) HW5.out) (Below.size (below_up (HBL.out _ _ _ HT5.out) (Below.size (HBL.out _ _ _ HT5.out)) HW5.out)) b_⟩
end Go.Proofs.Ytphbjkcplpfogaa
