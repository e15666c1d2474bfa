/-
  The versions that are needed, given one by one.
-/
import Derived.Test.YtcnbdfobhablbaaChi
import Derived.Test.YtcnbdfobhablbaaFhd
set_option linter.unusedVariables false
set_option linter.unusedSimpArgs false
set_option maxRecDepth 100000
namespace Go.Proofs.Ytcnbdfobhablbaa
open Go.RowKit Go.Shelf
attribute [local go_sem] Oper.semAt_some
attribute [local go_sem ↓] Go.wp_at_zero Go.wp_at_succ ld_v lv_v st_v ne_v bd_v bs_v ld_w lv_w st_w ne_w bd_w bs_w ld_r ld_d lv_r lv_d st_r st_d ne_r eq_r ne_d bd_r bd_d
attribute [local go_sem] run_ldv run_lvv run_stv run_nev run_bdv_z run_bdv_d run_bdv_r run_bsv1 run_bsv0 run_ldw run_lvw run_stw run_new run_bdw_3 run_bsw1 run_bsw0 run_ldr run_ldd run_lvr run_lvd run_str run_std run_ner run_eqr run_ned run_bdr0 run_bdd0 run_bdr1 run_bdd1 run_bdd9 Shp.rd_new Shp.rd_old Shp.rd_drew Shp.rd_drewN Shp.rd_set Shp.tn_new Shp.tn_old Shp.tn_drew Shp.tn_drewN setRow_alloc vv_0 vv_1 run_fdv0 run_fdv1 Shp.rd_extk cell_ext
theorem D.ned_last1 (ps : List Nat) {vs : List D.Vn} {j : Nat} {v : D.Vn} (h : vs[j]? = some v) (hl : j + 1 = vs.length) : D.ned ps (vs.drop j) = v :: D.ned ps (vs.drop (j + 1)) := by
  obtain ⟨hj, rfl⟩ := List.getElem?_eq_some_iff.1 h
  rw [List.drop_eq_getElem_cons hj, List.drop_of_length_le (by omega)]
  rfl
theorem D.ned_next (ps : List Nat) {vs : List D.Vn} {j : Nat} {v u : D.Vn} (h : vs[j]? = some v) (hu : vs[j + 1]? = some u) : D.ned ps (vs.drop j) = if D.pin ps v.a u.a = true then v :: D.ned ps (vs.drop (j + 1)) else D.ned ps (vs.drop (j + 1)) := by
  obtain ⟨hj, rfl⟩ := List.getElem?_eq_some_iff.1 h
  obtain ⟨hj2, rfl⟩ := List.getElem?_eq_some_iff.1 hu
  rw [List.drop_eq_getElem_cons hj, List.drop_eq_getElem_cons hj2, D.ned]
theorem D.ned_len (ps : List Nat) (l : List D.Vn) : (D.ned ps l).length ≤ l.length := (D.ned_sub ps l).length_le
set_option maxHeartbeats 8000000 in
theorem need_in (n : Nat) (hn : 6 ≤ n) (m : Nat) (hm : m ≤ 1000) (l b0 b1 b base : Nat) (p A : Option Addr) (c : Nat) (vs : List D.Vn) (ps : List Nat) (hps : ps.length ≤ 1000) (n0 : Nat) (X : List Nat) (J Jx : List D.Vn → World → Prop)
    (w W : World) (hwW : Below w.heap.size w W) (h0 : w.cell? ⟨b0, 0, none⟩ = some (.pointer p)) (h1 : w.cell? ⟨b1, 0, none⟩ = some (.func (.func 35) #[] #[.pointer (some ⟨b, 0, none⟩)])) (hal : Al w p A m c vs) (hbt : Btw w base b ps)
    (hX1 : b1 < n0 ∧ b1 ∉ X) (hXv : ∀ ad, A = some ad → 0 < m → ad.block < n0 ∧ ad.block ∉ X) (hXb : ∀ q, base ≤ q → q < w.heap.size → q < n0 ∧ q ∉ X) (h0n : n0 ≤ w.heap.size)
    (hA : AbidesFrom W.heap.size J)
    (hY : ∀ pre (y : D.Vn) W1, J pre W1 → pre.length < (D.ned ps vs).length → YieldAt Fence.wide (n - 1) Try.prog l #[.agg (vS.v y)] W1 fun e W' =>
      (e = .returned (.bool true) ∧ J (pre ++ [y]) W' ∧ Kq n0 X W1 W') ∨ (e = .returned (.bool false) ∧ Jx (pre ++ [y]) W'))
    (hJ0 : J [] W) :
    CallsIn Fence.wide n Try.prog 37 #[.func (.yield l) #[] #[], .pointer (some ⟨b0, 0, none⟩), .pointer (some ⟨b1, 0, none⟩)] W fun e W' => (∃ v, e = .returned v) ∧ ((∃ ys : List D.Vn, ys = D.ned ps vs ∧ J ys W') ∨ (∃ pre, Jx pre W')) := by
  have hk0 : Kq n0 X w W := Kq.below hwW h0n
  have HY := Lib.hid hY
  have HA := Lib.hid hA
  have CA := Lib.hid (hal.all W hwW)
  have HR := Lib.hid hal.row
  have HB := Lib.hid hbt
  have HXv := Lib.hid hXv
  have HXb := Lib.hid hXb
  have H1 := Lib.hid h1
  have HX1 := Lib.hid hX1
  have HK0 := Lib.hid hk0
  have hn0W : n0 ≤ W.heap.size := Nat.le_trans h0n hwW.size
  have hlen : Kept (vs.length = m) := ⟨hal.row.len⟩
  have c0 := cell_kept_ hwW h0
  clear hY hA hal hbt hXv hXb h1 hX1 hk0 h0 hwW
  refine callsIn_of_wp Try.func37 rfl trivial ?_ rfl
  simp only [Try.ntmps37, List.size_toArray, List.length_cons, List.length_nil, Nat.reduceAdd, Nat.reduceSub, Array.replicate_succ, Array.replicate_zero, List.push_toArray, List.append_toArray, List.nil_append, List.cons_append]
  gi_wp2
  refine ⟨trivial, fun _ => by omega, ?_⟩
  refine (callsIn_wide.2 CA.out).mono ?_
  rintro e w1 ⟨rfl, rfl⟩
  gi_wp2
  gi_loopw [12] (fun s wr => ∃ (j : Nat) (pre : List D.Vn), j ≤ m ∧ s = .int .i64 j ∧ w1.heap.size ≤ wr.heap.size ∧ Kq n0 X w wr ∧ Kept (pre ++ D.ned ps (vs.drop j) = D.ned ps vs) ∧ J pre wr) (fun s _ => m - (intOf s).toNat)
  case atStart => exact ⟨0, [], Nat.zero_le _, rfl, Nat.le_refl _, HK0.out, ⟨by simp⟩, hJ0⟩
  case round =>
    obtain ⟨j, pre, hj, rfl, hsz, hk, HP, hJ⟩ := hrel
    by_cases hlt : j < m
    · obtain ⟨v, hv⟩ : ∃ v, vs[j]? = some v := ⟨_, List.getElem?_eq_getElem (by have := hlen.out; omega)⟩
      obtain ⟨ad, hAe, hal, hrd⟩ := HR.out.rd hv
      obtain ⟨hx1, hx2⟩ := HXv.out ad hAe (by omega)
      subst hAe
      have hrd2 : ∀ W', Kq n0 X w W' → ∀ k u, vs[k]? = some u → vS.rd W' (ad.add (k * 11)) = some u := fun W' hk' k u hu => by
        obtain ⟨ad', e, hal', hr'⟩ := HR.out.rd hu
        injection e with e; subst e
        exact (Shp.rd_to (hk'.old _ (by rw [block_of_add]; exact hx1) (by rw [block_of_add]; exact hx2))).trans hr'
      have r0 := hrd2 wr hk j v hv
      have i0 : (0 : Int) ≤ (j : Int) := by omega
      have i1 : (j : Int) < (m : Int) := by omega
      -- the round's own box
      obtain ⟨gx, hgx⟩ : ∃ gx, wr.heap.size = gx := ⟨_, rfl⟩
      obtain ⟨W1, hW1⟩ : ∃ W1, wr.alloc (.cells (vS.v v) 32) = W1 := ⟨_, rfl⟩
      have b1' : Below wr.heap.size wr W1 := by rw [← hW1]; exact below_alloc_ _ _
      have r1 : vS.rd W1 ⟨gx, 0, none⟩ = some v := by rw [← hW1, ← hgx]; exact Shp.rd_new _ _ _ _ rfl
      have hk1 : Kq n0 X w W1 := hk.trans (Kq.below b1' (by omega))
      have hJ1 := HA.out pre wr W1 none hJ (grown_none b1') (fun r e => by cases e)
      obtain ⟨W2, hW2⟩ : ∃ W2, W1.drew = W2 := ⟨_, rfl⟩
      have b2 : Below W1.heap.size W1 W2 := by rw [← hW2]; exact (Below.refl _ _).drew
      have r2 := Shp.rd_on r1 b2
      have hk2 : Kq n0 X w W2 := hk1.trans (Kq.below b2 (by have := b1'.size; omega))
      have hJ2 := HA.out pre W1 W2 none hJ1 (grown_none b2) (fun r e => by cases e)
      have hz2 : w1.heap.size ≤ W2.heap.size := Nat.le_trans hsz (Nat.le_trans b1'.size b2.size)
      have HS2 := Lib.hid (show Kq n0 X w W2 ∧ w1.heap.size ≤ W2.heap.size ∧ J pre W2 from ⟨hk2, hz2, hJ2⟩)
      by_cases hlast : j + 1 = m
      · have hned := D.ned_last1 ps hv (by have := hlen.out; omega)
        have hp : pre ++ v :: D.ned ps (vs.drop (j + 1)) = D.ned ps vs := by rw [← hned]; exact HP.out
        have hplen : pre.length < (D.ned ps vs).length := by rw [← hp, List.length_append, List.length_cons]; omega
        obtain ⟨fn, tmps, assign, body, hyd, hR⟩ := HY.out pre v W2 hJ2 hplen
        have hR2 := Lib.hid (RoundIn.mono hR fun e W' hh => show ∃ bb : Bool, e = .returned (.bool bb) ∧ (if bb = true then J (pre ++ [v]) W' ∧ Kq n0 X W2 W' else Jx (pre ++ [v]) W') from by
          rcases hh with ⟨h1, h2⟩ | ⟨h1, h2⟩
          · exact ⟨true, h1, by rw [if_pos rfl]; exact h2⟩
          · exact ⟨false, h1, by rw [if_neg (by decide)]; exact h2⟩)
        have HP2 := Lib.hid hp
        have hje : ((j : Int) == (m : Int) - 1) = true := by simp; omega
        have hjd : decide ((j : Int) = (m : Int) - 1) = true := decide_eq_true (by omega)
        clear hned hp hplen hJ2 hJ1 hJ hR hv hrd hrd2 hk hk1 hk2
        gi_wp2
        have hmix : Try.prog.follows .mixedOrders = true := by kernel_rfl
        refine region_f hmix (S := fun _ => True) trivial (fun sd => ?_)
        try rw [hW2]
        refine takeF rfl (fun _ => trivial) 0 (some 22) ?va0 (by kernel_rfl) (by kernel_rfl) (by kernel_rfl) (by kernel_rfl) (fun _ _ _ h => h) (by rfl) ?hya0 trivial ?resta0
        case hya0 => (intro o ho W hW; simp only [List.getElem?_toArray, List.getElem?_cons_succ, List.getElem?_cons_zero, Option.some.injEq] at ho; subst ho; (try dsimp only at hW); skip; go_simp; try rfl)
        try simp only [Act.put, List.setIfInBounds_toArray, List.set_cons_zero, List.set_cons_succ]
        refine takeF rfl (fun _ => trivial) 1 (some 23) ?va1 (by kernel_rfl) (by kernel_rfl) (by kernel_rfl) (by kernel_rfl) (fun _ _ _ h => h) (by rfl) ?hya1 trivial ?resta1
        case hya1 => (intro o ho W hW; simp only [List.getElem?_toArray, List.getElem?_cons_succ, List.getElem?_cons_zero, Option.some.injEq] at ho; subst ho; (try dsimp only at hW); skip; go_simp; try rfl)
        try simp only [Act.put, List.setIfInBounds_toArray, List.set_cons_zero, List.set_cons_succ]
        refine skipF rfl (fun _ => trivial) 2 (some 24) (by kernel_rfl) (by kernel_rfl) (by kernel_rfl) (by kernel_rfl) (fun _ _ _ h => h) (by rfl) trivial ?_
        try simp only [Act.put, List.setIfInBounds_toArray, List.set_cons_zero, List.set_cons_succ]
        refine skipF rfl (fun _ => trivial) 3 (some 25) (by kernel_rfl) (by kernel_rfl) (by kernel_rfl) (by kernel_rfl) (fun _ _ _ h => h) (by rfl) trivial ?_
        try simp only [Act.put, List.setIfInBounds_toArray, List.set_cons_zero, List.set_cons_succ]
        refine skipF rfl (fun _ => trivial) 4 (some 26) (by kernel_rfl) (by kernel_rfl) (by kernel_rfl) (by kernel_rfl) (fun _ _ _ h => h) (by rfl) trivial ?_
        try simp only [Act.put, List.setIfInBounds_toArray, List.set_cons_zero, List.set_cons_succ]
        refine skipF rfl (fun _ => trivial) 5 (some 27) (by kernel_rfl) (by kernel_rfl) (by kernel_rfl) (by kernel_rfl) (fun _ _ _ h => h) (by rfl) trivial ?_
        try simp only [Act.put, List.setIfInBounds_toArray, List.set_cons_zero, List.set_cons_succ]
        refine skipF rfl (fun _ => trivial) 6 (some 28) (by kernel_rfl) (by kernel_rfl) (by kernel_rfl) (by kernel_rfl) (fun _ _ _ h => h) (by rfl) trivial ?_
        try simp only [Act.put, List.setIfInBounds_toArray, List.set_cons_zero, List.set_cons_succ]
        refine skipF rfl (fun _ => trivial) 7 (some 29) (by kernel_rfl) (by kernel_rfl) (by kernel_rfl) (by kernel_rfl) (fun _ _ _ h => h) (by rfl) trivial ?_
        try simp only [Act.put, List.setIfInBounds_toArray, List.set_cons_zero, List.set_cons_succ]
        refine skipF rfl (fun _ => trivial) 8 (some 30) (by kernel_rfl) (by kernel_rfl) (by kernel_rfl) (by kernel_rfl) (fun _ _ _ h => h) (by rfl) trivial ?_
        try simp only [Act.put, List.setIfInBounds_toArray, List.set_cons_zero, List.set_cons_succ]
        refine skipF rfl (fun _ => trivial) 9 (some 31) (by kernel_rfl) (by kernel_rfl) (by kernel_rfl) (by kernel_rfl) (fun _ _ _ h => h) (by rfl) trivial ?_
        try simp only [Act.put, List.setIfInBounds_toArray, List.set_cons_zero, List.set_cons_succ]
        refine skipF rfl (fun _ => trivial) 10 (some 32) (by kernel_rfl) (by kernel_rfl) (by kernel_rfl) (by kernel_rfl) (fun _ _ _ h => h) (by rfl) trivial ?_
        try simp only [Act.put, List.setIfInBounds_toArray, List.set_cons_zero, List.set_cons_succ]
        refine skipF rfl (fun _ => trivial) 11 (some 33) (by kernel_rfl) (by kernel_rfl) (by kernel_rfl) (by kernel_rfl) (fun _ _ _ h => h) (by rfl) trivial ?_
        try simp only [Act.put, List.setIfInBounds_toArray, List.set_cons_zero, List.set_cons_succ]
        refine takeF rfl (fun _ => trivial) 12 (some 34) (.bool true) (by kernel_rfl) (by kernel_rfl) (by kernel_rfl) (by kernel_rfl) (fun _ _ _ h => h) (by rfl) ?hya12 trivial ?resta12
        case hya12 => (intro o ho W hW; simp only [List.getElem?_toArray, List.getElem?_cons_succ, List.getElem?_cons_zero, Option.some.injEq] at ho; subst ho; (try dsimp only at hW); skip; go_simp; try rfl)
        try simp only [Act.put, List.setIfInBounds_toArray, List.set_cons_zero, List.set_cons_succ]
        refine takeF rfl (fun _ => trivial) 13 (some 35) (.bool true) (by kernel_rfl) (by kernel_rfl) (by kernel_rfl) (by kernel_rfl) (fun _ _ _ h => h) (by rfl) ?hya13 trivial ?resta13
        case hya13 => (intro o ho W hW; simp only [List.getElem?_toArray, List.getElem?_cons_succ, List.getElem?_cons_zero, Option.some.injEq] at ho; subst ho; (try dsimp only at hW); skip; go_simp; try rfl)
        try simp only [Act.put, List.setIfInBounds_toArray, List.set_cons_zero, List.set_cons_succ]
        refine takeF rfl (fun _ => trivial) 14 (some 36) ?va14 (by kernel_rfl) (by kernel_rfl) (by kernel_rfl) (by kernel_rfl) (fun _ _ _ h => h) (by rfl) ?hya14 trivial ?resta14
        case hya14 => (intro o ho W hW; simp only [List.getElem?_toArray, List.getElem?_cons_succ, List.getElem?_cons_zero, Option.some.injEq] at ho; subst ho; (try dsimp only at hW); skip; go_simp; try rfl)
        try simp only [Act.put, List.setIfInBounds_toArray, List.set_cons_zero, List.set_cons_succ]
        refine nextF 15 (by kernel_rfl) (by rfl) (fun o ho K hK => ?_)
        simp only [List.getElem?_toArray, List.getElem?_cons_succ, List.getElem?_cons_zero, Option.some.injEq] at ho; subst ho
        refine opIn_of (by intro c hc; cases hc) ?_
        go_simp
        refine hK.out _ _ trivial (fun _ => ?_)
        clear hK K
        try simp only [Act.put, List.setIfInBounds_toArray, List.set_cons_zero, List.set_cons_succ]
        refine nextF 16 (by kernel_rfl) (by rfl) (fun o ho K hK => ?_)
        simp only [List.getElem?_toArray, List.getElem?_cons_succ, List.getElem?_cons_zero, Option.some.injEq] at ho; subst ho
        refine ⟨fun _ _ => trivial, ?_⟩
        simp [Oper.semAt, execOp, resolve, invoke, go_sem, hyd]
        refine ⟨fun _ => by omega, hR2.out.mono ?_⟩
        rintro e W3 ⟨bb, rfl, hG⟩
        refine hK.out _ _ trivial (fun _ => ?_)
        clear hK K
        try simp only [Act.put, List.setIfInBounds_toArray, List.set_cons_zero, List.set_cons_succ]
        cases bb with
        | false =>
          refine takeF rfl (fun _ => trivial) 17 (some 39) ?vax17 (by kernel_rfl) (by kernel_rfl) (by kernel_rfl) (by kernel_rfl) (fun _ _ _ h => h) (by rfl) ?hyax17 trivial ?restax17
          case hyax17 => (intro o ho W hW; simp only [List.getElem?_toArray, List.getElem?_cons_succ, List.getElem?_cons_zero, Option.some.injEq] at ho; subst ho; (try dsimp only at hW); skip; go_simp; try rfl)
          try simp only [Act.put, List.setIfInBounds_toArray, List.set_cons_zero, List.set_cons_succ]
          refine takeF rfl (fun _ => trivial) 18 (some 40) ?vax18 (by kernel_rfl) (by kernel_rfl) (by kernel_rfl) (by kernel_rfl) (fun _ _ _ h => h) (by rfl) ?hyax18 trivial ?restax18
          case hyax18 => (intro o ho W hW; simp only [List.getElem?_toArray, List.getElem?_cons_succ, List.getElem?_cons_zero, Option.some.injEq] at ho; subst ho; (try dsimp only at hW); skip; go_simp; try rfl)
          try simp only [Act.put, List.setIfInBounds_toArray, List.set_cons_zero, List.set_cons_succ]
          refine doneF (by kernel_rfl) ?_ _
          refine NoPanic.normal ?_
          rw [if_neg (by decide)] at hG
          gi_wp2
          refine bodyPost_ret (results_none rfl _ _ _) rfl ?_
          exact ⟨⟨_, rfl⟩, .inr ⟨_, hG⟩⟩
        | true =>
          refine takeF rfl (fun _ => trivial) 17 (some 39) ?vay17 (by kernel_rfl) (by kernel_rfl) (by kernel_rfl) (by kernel_rfl) (fun _ _ _ h => h) (by rfl) ?hyay17 trivial ?restay17
          case hyay17 => (intro o ho W hW; simp only [List.getElem?_toArray, List.getElem?_cons_succ, List.getElem?_cons_zero, Option.some.injEq] at ho; subst ho; (try dsimp only at hW); skip; go_simp; try rfl)
          try simp only [Act.put, List.setIfInBounds_toArray, List.set_cons_zero, List.set_cons_succ]
          refine takeF rfl (fun _ => trivial) 18 (some 40) ?vay18 (by kernel_rfl) (by kernel_rfl) (by kernel_rfl) (by kernel_rfl) (fun _ _ _ h => h) (by rfl) ?hyay18 trivial ?restay18
          case hyay18 => (intro o ho W hW; simp only [List.getElem?_toArray, List.getElem?_cons_succ, List.getElem?_cons_zero, Option.some.injEq] at ho; subst ho; (try dsimp only at hW); skip; go_simp; try rfl)
          try simp only [Act.put, List.setIfInBounds_toArray, List.set_cons_zero, List.set_cons_succ]
          refine doneF (by kernel_rfl) ?_ _
          refine NoPanic.normal ?_
          rw [if_pos rfl] at hG
          obtain ⟨hJ3, hk3⟩ := hG
          gi_wp2
          go_roundw
          case rel => exact ⟨j + 1, pre ++ [v], by omega, by go_num, Nat.le_trans HS2.out.2.1 hk3.sz, HS2.out.1.trans hk3, ⟨by rw [List.append_assoc]; exact HP2.out⟩, hJ3⟩
          case measure => simp [intOf]; omega
      · obtain ⟨u, hu⟩ : ∃ u, vs[j + 1]? = some u := ⟨_, List.getElem?_eq_getElem (by have := hlen.out; omega)⟩
        have hned := D.ned_next ps hv hu
        have ru := hrd2 W2 hk2 (j + 1) u hu
        have hje : ((j : Int) == (m : Int) - 1) = false := by simp; omega
        have hjd : decide ((j : Int) = (m : Int) - 1) = false := decide_eq_false (by omega)
        have j2 : (j : Int) + 1 < (m : Int) := by omega
        have j3 : (0 : Int) ≤ (j : Int) + 1 := by omega
        have hw1 : IntKind.i64.wrap ((j : Int) + 1) = (j : Int) + 1 := IntWalk.i64_in _ (by omega)
        have c1 : W2.cell? ⟨b1, 0, none⟩ = some (.func (.func 35) #[] #[.pointer (some ⟨b, 0, none⟩)]) := (World.cell?_of_block (hk2.old _ HX1.out.1 HX1.out.2)).trans H1.out
        have q0 := (vf r2).1
        have q1 := (vr ru).1
        have CP := Lib.hid (btw1_any base b ps v.a u.a W2 (HB.out.kq hk2 HXb.out) hps)
        cases hpin : D.pin ps v.a u.a with
        | false =>
          rw [hpin] at CP
          rw [hpin, if_neg (by decide)] at hned
          have HP2 : Kept (pre ++ D.ned ps (vs.drop (j + 1)) = D.ned ps vs) := ⟨by rw [← hned]; exact HP.out⟩
          clear hned hJ2 hJ1 hJ hv hrd hrd2 hk hk1 hk2 hu
          gi_wp2
          have hmix : Try.prog.follows .mixedOrders = true := by kernel_rfl
          refine region_f hmix (S := fun W => W = W2) hW2 (fun sd => ?_)
          try rw [hW2]
          refine takeF rfl (fun _ => trivial) 0 (some 22) ?vb0 (by kernel_rfl) (by kernel_rfl) (by kernel_rfl) (by kernel_rfl) (fun _ _ _ h => h) (by rfl) ?hyb0 rfl ?restb0
          case hyb0 => (intro o ho W hW; simp only [List.getElem?_toArray, List.getElem?_cons_succ, List.getElem?_cons_zero, Option.some.injEq] at ho; subst ho; (try dsimp only at hW); subst hW; go_simp; try rfl)
          try simp only [Act.put, List.setIfInBounds_toArray, List.set_cons_zero, List.set_cons_succ]
          refine takeF rfl (fun _ => trivial) 1 (some 23) ?vb1 (by kernel_rfl) (by kernel_rfl) (by kernel_rfl) (by kernel_rfl) (fun _ _ _ h => h) (by rfl) ?hyb1 rfl ?restb1
          case hyb1 => (intro o ho W hW; simp only [List.getElem?_toArray, List.getElem?_cons_succ, List.getElem?_cons_zero, Option.some.injEq] at ho; subst ho; (try dsimp only at hW); subst hW; go_simp; try rfl)
          try simp only [Act.put, List.setIfInBounds_toArray, List.set_cons_zero, List.set_cons_succ]
          refine takeF rfl (fun _ => trivial) 2 (some 24) ?vb2 (by kernel_rfl) (by kernel_rfl) (by kernel_rfl) (by kernel_rfl) (fun _ _ _ h => h) (by rfl) ?hyb2 rfl ?restb2
          case hyb2 => (intro o ho W hW; simp only [List.getElem?_toArray, List.getElem?_cons_succ, List.getElem?_cons_zero, Option.some.injEq] at ho; subst ho; (try dsimp only at hW); subst hW; go_simp; try rfl)
          try simp only [Act.put, List.setIfInBounds_toArray, List.set_cons_zero, List.set_cons_succ]
          refine takeF rfl (fun _ => trivial) 3 (some 25) ?vb3 (by kernel_rfl) (by kernel_rfl) (by kernel_rfl) (by kernel_rfl) (fun _ _ _ h => h) (by rfl) ?hyb3 rfl ?restb3
          case hyb3 => (intro o ho W hW; simp only [List.getElem?_toArray, List.getElem?_cons_succ, List.getElem?_cons_zero, Option.some.injEq] at ho; subst ho; (try dsimp only at hW); subst hW; go_simp; try rfl)
          try simp only [Act.put, List.setIfInBounds_toArray, List.set_cons_zero, List.set_cons_succ]
          refine takeF rfl (fun _ => trivial) 4 (some 26) ?vb4 (by kernel_rfl) (by kernel_rfl) (by kernel_rfl) (by kernel_rfl) (fun _ _ _ h => h) (by rfl) ?hyb4 rfl ?restb4
          case hyb4 => (intro o ho W hW; simp only [List.getElem?_toArray, List.getElem?_cons_succ, List.getElem?_cons_zero, Option.some.injEq] at ho; subst ho; (try dsimp only at hW); subst hW; go_simp; try rfl)
          try simp only [Act.put, List.setIfInBounds_toArray, List.set_cons_zero, List.set_cons_succ]
          refine takeF rfl (fun _ => trivial) 5 (some 27) ?vb5 (by kernel_rfl) (by kernel_rfl) (by kernel_rfl) (by kernel_rfl) (fun _ _ _ h => h) (by rfl) ?hyb5 rfl ?restb5
          case hyb5 => (intro o ho W hW; simp only [List.getElem?_toArray, List.getElem?_cons_succ, List.getElem?_cons_zero, Option.some.injEq] at ho; subst ho; (try dsimp only at hW); subst hW; go_simp; try rfl)
          try simp only [Act.put, List.setIfInBounds_toArray, List.set_cons_zero, List.set_cons_succ]
          refine takeF rfl (fun _ => trivial) 6 (some 28) ?vb6 (by kernel_rfl) (by kernel_rfl) (by kernel_rfl) (by kernel_rfl) (fun _ _ _ h => h) (by rfl) ?hyb6 rfl ?restb6
          case hyb6 => (intro o ho W hW; simp only [List.getElem?_toArray, List.getElem?_cons_succ, List.getElem?_cons_zero, Option.some.injEq] at ho; subst ho; (try dsimp only at hW); subst hW; go_simp; try rfl)
          try simp only [Act.put, List.setIfInBounds_toArray, List.set_cons_zero, List.set_cons_succ]
          refine takeF rfl (fun _ => trivial) 7 (some 29) (.int .i64 ((j : Int) + 1)) (by kernel_rfl) (by kernel_rfl) (by kernel_rfl) (by kernel_rfl) (fun _ _ _ h => h) (by rfl) ?hyb7 rfl ?restb7
          case hyb7 => (intro o ho W hW; simp only [List.getElem?_toArray, List.getElem?_cons_succ, List.getElem?_cons_zero, Option.some.injEq] at ho; subst ho; (try dsimp only at hW); subst hW; go_simp; try exact hw1)
          try simp only [Act.put, List.setIfInBounds_toArray, List.set_cons_zero, List.set_cons_succ]
          refine takeF rfl (fun _ => trivial) 8 (some 30) (.pointer (some (ad.add ((j + 1) * 11)))) (by kernel_rfl) (by kernel_rfl) (by kernel_rfl) (by kernel_rfl) (fun _ _ _ h => h) (by rfl) ?hyb8 rfl ?restb8
          case hyb8 => (intro o ho W hW; simp only [List.getElem?_toArray, List.getElem?_cons_succ, List.getElem?_cons_zero, Option.some.injEq] at ho; subst ho; (try dsimp only at hW); subst hW; go_simp; try exact hix)
          try simp only [Act.put, List.setIfInBounds_toArray, List.set_cons_zero, List.set_cons_succ]
          refine takeF rfl (fun _ => trivial) 9 (some 31) (.pointer (some (ad.add ((j + 1) * 11)))) (by kernel_rfl) (by kernel_rfl) (by kernel_rfl) (by kernel_rfl) (fun _ _ _ h => h) (by rfl) ?hyb9 rfl ?restb9
          case hyb9 => (intro o ho W hW; simp only [List.getElem?_toArray, List.getElem?_cons_succ, List.getElem?_cons_zero, Option.some.injEq] at ho; subst ho; (try dsimp only at hW); subst hW; go_simp; try rfl)
          try simp only [Act.put, List.setIfInBounds_toArray, List.set_cons_zero, List.set_cons_succ]
          refine takeF rfl (fun _ => trivial) 10 (some 32) (.int .u64 (u.a : Nat)) (by kernel_rfl) (by kernel_rfl) (by kernel_rfl) (by kernel_rfl) (fun _ _ _ h => h) (by rfl) ?hyb10 rfl ?restb10
          case hyb10 => (intro o ho W hW; simp only [List.getElem?_toArray, List.getElem?_cons_succ, List.getElem?_cons_zero, Option.some.injEq] at ho; subst ho; (try dsimp only at hW); subst hW; go_simp; try rfl)
          try simp only [Act.put, List.setIfInBounds_toArray, List.set_cons_zero, List.set_cons_succ]
          refine nextF 11 (by kernel_rfl) (by rfl) (fun o ho K hK => ?_)
          simp only [List.getElem?_toArray, List.getElem?_cons_succ, List.getElem?_cons_zero, Option.some.injEq] at ho; subst ho
          refine opIn_of (by intro c hc; cases hc) ?_
          go_simp
          (go_at_call 35; (with_reducible refine CP.out.mono ?_); rintro e w' ⟨rfl, hw'⟩)
          rw [hw']
          refine hK.out _ _ rfl (fun _ => ?_)
          clear hK K
          try simp only [Act.put, List.setIfInBounds_toArray, List.set_cons_zero, List.set_cons_succ]
          refine takeF rfl (fun _ => trivial) 12 (some 34) (.bool false) (by kernel_rfl) (by kernel_rfl) (by kernel_rfl) (by kernel_rfl) (fun _ _ _ h => h) (by rfl) ?hyb12 rfl ?restb12
          case hyb12 => (intro o ho W hW; simp only [List.getElem?_toArray, List.getElem?_cons_succ, List.getElem?_cons_zero, Option.some.injEq] at ho; subst ho; (try dsimp only at hW); subst hW; go_simp; try rfl)
          try simp only [Act.put, List.setIfInBounds_toArray, List.set_cons_zero, List.set_cons_succ]
          refine takeF rfl (fun _ => trivial) 13 (some 35) (.bool false) (by kernel_rfl) (by kernel_rfl) (by kernel_rfl) (by kernel_rfl) (fun _ _ _ h => h) (by rfl) ?hyb13 rfl ?restb13
          case hyb13 => (intro o ho W hW; simp only [List.getElem?_toArray, List.getElem?_cons_succ, List.getElem?_cons_zero, Option.some.injEq] at ho; subst ho; (try dsimp only at hW); subst hW; go_simp; try rfl)
          try simp only [Act.put, List.setIfInBounds_toArray, List.set_cons_zero, List.set_cons_succ]
          refine skipF rfl (fun _ => trivial) 14 (some 36) (by kernel_rfl) (by kernel_rfl) (by kernel_rfl) (by kernel_rfl) (fun _ _ _ h => h) (by rfl) rfl ?_
          try simp only [Act.put, List.setIfInBounds_toArray, List.set_cons_zero, List.set_cons_succ]
          refine skipF rfl (fun _ => trivial) 15 (some 37) (by kernel_rfl) (by kernel_rfl) (by kernel_rfl) (by kernel_rfl) (fun _ _ _ h => h) (by rfl) rfl ?_
          try simp only [Act.put, List.setIfInBounds_toArray, List.set_cons_zero, List.set_cons_succ]
          refine skipF rfl (fun _ => trivial) 16 (some 38) (by kernel_rfl) (by kernel_rfl) (by kernel_rfl) (by kernel_rfl) (fun _ _ _ h => h) (by rfl) rfl ?_
          try simp only [Act.put, List.setIfInBounds_toArray, List.set_cons_zero, List.set_cons_succ]
          refine skipF rfl (fun _ => trivial) 17 (some 39) (by kernel_rfl) (by kernel_rfl) (by kernel_rfl) (by kernel_rfl) (fun _ _ _ h => h) (by rfl) rfl ?_
          try simp only [Act.put, List.setIfInBounds_toArray, List.set_cons_zero, List.set_cons_succ]
          refine takeF rfl (fun _ => trivial) 18 (some 40) (.bool false) (by kernel_rfl) (by kernel_rfl) (by kernel_rfl) (by kernel_rfl) (fun _ _ _ h => h) (by rfl) ?hyb18 rfl ?restb18
          case hyb18 => (intro o ho W hW; simp only [List.getElem?_toArray, List.getElem?_cons_succ, List.getElem?_cons_zero, Option.some.injEq] at ho; subst ho; (try dsimp only at hW); subst hW; go_simp; try rfl)
          try simp only [Act.put, List.setIfInBounds_toArray, List.set_cons_zero, List.set_cons_succ]
          refine doneF (by kernel_rfl) ?_ _
          refine NoPanic.normal ?_
          gi_wp2
          go_roundw
          case rel => exact ⟨j + 1, pre, by omega, by go_num, HS2.out.2.1, HS2.out.1, HP2, HS2.out.2.2⟩
          case measure => simp [intOf]; omega
        | true =>
          rw [hpin] at CP
          rw [hpin, if_pos rfl] at hned
          have hp : pre ++ v :: D.ned ps (vs.drop (j + 1)) = D.ned ps vs := by rw [← hned]; exact HP.out
          have hplen : pre.length < (D.ned ps vs).length := by rw [← hp, List.length_append, List.length_cons]; omega
          obtain ⟨fn, tmps, assign, body, hyd, hR⟩ := HY.out pre v W2 hJ2 hplen
          have hR2 := Lib.hid (RoundIn.mono hR fun e W' hh => show ∃ bb : Bool, e = .returned (.bool bb) ∧ (if bb = true then J (pre ++ [v]) W' ∧ Kq n0 X W2 W' else Jx (pre ++ [v]) W') from by
            rcases hh with ⟨h1, h2⟩ | ⟨h1, h2⟩
            · exact ⟨true, h1, by rw [if_pos rfl]; exact h2⟩
            · exact ⟨false, h1, by rw [if_neg (by decide)]; exact h2⟩)
          have HP2 := Lib.hid hp
          clear hned hp hplen hJ2 hJ1 hJ hR hv hrd hrd2 hk hk1 hk2 hu
          gi_wp2
          have hmix : Try.prog.follows .mixedOrders = true := by kernel_rfl
          refine region_f hmix (S := fun _ => True) trivial (fun sd => ?_)
          try rw [hW2]
          refine takeF rfl (fun _ => trivial) 0 (some 22) ?vc0 (by kernel_rfl) (by kernel_rfl) (by kernel_rfl) (by kernel_rfl) (fun _ _ _ h => h) (by rfl) ?hyc0 trivial ?restc0
          case hyc0 => (intro o ho W hW; simp only [List.getElem?_toArray, List.getElem?_cons_succ, List.getElem?_cons_zero, Option.some.injEq] at ho; subst ho; (try dsimp only at hW); skip; go_simp; try rfl)
          try simp only [Act.put, List.setIfInBounds_toArray, List.set_cons_zero, List.set_cons_succ]
          refine takeF rfl (fun _ => trivial) 1 (some 23) ?vc1 (by kernel_rfl) (by kernel_rfl) (by kernel_rfl) (by kernel_rfl) (fun _ _ _ h => h) (by rfl) ?hyc1 trivial ?restc1
          case hyc1 => (intro o ho W hW; simp only [List.getElem?_toArray, List.getElem?_cons_succ, List.getElem?_cons_zero, Option.some.injEq] at ho; subst ho; (try dsimp only at hW); skip; go_simp; try rfl)
          try simp only [Act.put, List.setIfInBounds_toArray, List.set_cons_zero, List.set_cons_succ]
          refine takeF rfl (fun _ => trivial) 3 (some 25) ?vc3 (by kernel_rfl) (by kernel_rfl) (by kernel_rfl) (by kernel_rfl) (fun _ _ _ h => h) (by rfl) ?hyc3 trivial ?restc3
          case hyc3 => (intro o ho W hW; simp only [List.getElem?_toArray, List.getElem?_cons_succ, List.getElem?_cons_zero, Option.some.injEq] at ho; subst ho; (try dsimp only at hW); skip; go_simp; try rfl)
          try simp only [Act.put, List.setIfInBounds_toArray, List.set_cons_zero, List.set_cons_succ]
          refine takeF rfl (fun _ => trivial) 5 (some 27) ?vc5 (by kernel_rfl) (by kernel_rfl) (by kernel_rfl) (by kernel_rfl) (fun _ _ _ h => h) (by rfl) ?hyc5 trivial ?restc5
          case hyc5 => (intro o ho W hW; simp only [List.getElem?_toArray, List.getElem?_cons_succ, List.getElem?_cons_zero, Option.some.injEq] at ho; subst ho; (try dsimp only at hW); skip; go_simp; try rfl)
          try simp only [Act.put, List.setIfInBounds_toArray, List.set_cons_zero, List.set_cons_succ]
          refine takeF rfl (fun _ => trivial) 6 (some 28) ?vc6 (by kernel_rfl) (by kernel_rfl) (by kernel_rfl) (by kernel_rfl) (fun _ _ _ h => h) (by rfl) ?hyc6 trivial ?restc6
          case hyc6 => (intro o ho W hW; simp only [List.getElem?_toArray, List.getElem?_cons_succ, List.getElem?_cons_zero, Option.some.injEq] at ho; subst ho; (try dsimp only at hW); skip; go_simp; try rfl)
          try simp only [Act.put, List.setIfInBounds_toArray, List.set_cons_zero, List.set_cons_succ]
          refine takeF rfl (fun _ => trivial) 7 (some 29) (.int .i64 ((j : Int) + 1)) (by kernel_rfl) (by kernel_rfl) (by kernel_rfl) (by kernel_rfl) (fun _ _ _ h => h) (by rfl) ?hyc7 trivial ?restc7
          case hyc7 => (intro o ho W hW; simp only [List.getElem?_toArray, List.getElem?_cons_succ, List.getElem?_cons_zero, Option.some.injEq] at ho; subst ho; (try dsimp only at hW); skip; go_simp; try exact hw1)
          try simp only [Act.put, List.setIfInBounds_toArray, List.set_cons_zero, List.set_cons_succ]
          refine takeF rfl (fun _ => trivial) 8 (some 30) (.pointer (some (ad.add ((j + 1) * 11)))) (by kernel_rfl) (by kernel_rfl) (by kernel_rfl) (by kernel_rfl) (fun _ _ _ h => h) (by rfl) ?hyc8 trivial ?restc8
          case hyc8 => (intro o ho W hW; simp only [List.getElem?_toArray, List.getElem?_cons_succ, List.getElem?_cons_zero, Option.some.injEq] at ho; subst ho; (try dsimp only at hW); skip; go_simp; try exact hix)
          try simp only [Act.put, List.setIfInBounds_toArray, List.set_cons_zero, List.set_cons_succ]
          refine takeF rfl (fun _ => trivial) 9 (some 31) (.pointer (some (ad.add ((j + 1) * 11)))) (by kernel_rfl) (by kernel_rfl) (by kernel_rfl) (by kernel_rfl) (fun _ _ _ h => h) (by rfl) ?hyc9 trivial ?restc9
          case hyc9 => (intro o ho W hW; simp only [List.getElem?_toArray, List.getElem?_cons_succ, List.getElem?_cons_zero, Option.some.injEq] at ho; subst ho; (try dsimp only at hW); skip; go_simp; try rfl)
          try simp only [Act.put, List.setIfInBounds_toArray, List.set_cons_zero, List.set_cons_succ]
          refine fork3F 2 4 10 (by kernel_rfl) (by rfl) (by rfl) (by rfl) (fun o ho K hK => ?_) (fun o ho K hK => ?_) (fun o ho K hK => ?_)
          · simp only [List.getElem?_toArray, List.getElem?_cons_succ, List.getElem?_cons_zero, Option.some.injEq] at ho; subst ho
            refine opIn_of (by intro c hc; cases hc) ?_
            go_simp
            refine hK.out _ _ trivial (fun _ => ?_)
            clear hK K
            try simp only [Act.put, List.setIfInBounds_toArray, List.set_cons_zero, List.set_cons_succ]
            refine fork2F 4 10 (by kernel_rfl) (by rfl) (by rfl) (fun o ho K hK => ?_) (fun o ho K hK => ?_)
            · simp only [List.getElem?_toArray, List.getElem?_cons_succ, List.getElem?_cons_zero, Option.some.injEq] at ho; subst ho
              refine opIn_of (by intro c hc; cases hc) ?_
              go_simp
              refine hK.out _ _ trivial (fun _ => ?_)
              clear hK K
              try simp only [Act.put, List.setIfInBounds_toArray, List.set_cons_zero, List.set_cons_succ]
              refine nextF 10 (by kernel_rfl) (by rfl) (fun o ho K hK => ?_)
              simp only [List.getElem?_toArray, List.getElem?_cons_succ, List.getElem?_cons_zero, Option.some.injEq] at ho; subst ho
              refine opIn_of (by intro c hc; cases hc) ?_
              go_simp
              refine hK.out _ _ trivial (fun _ => ?_)
              clear hK K
              try simp only [Act.put, List.setIfInBounds_toArray, List.set_cons_zero, List.set_cons_succ]
              refine nextF 11 (by kernel_rfl) (by rfl) (fun o ho K hK => ?_)
              simp only [List.getElem?_toArray, List.getElem?_cons_succ, List.getElem?_cons_zero, Option.some.injEq] at ho; subst ho
              refine opIn_of (by intro c hc; cases hc) ?_
              go_simp
              (go_at_call 35; (with_reducible refine CP.out.mono ?_); rintro e w' ⟨rfl, hw'⟩)
              rw [hw']
              refine hK.out _ _ trivial (fun _ => ?_)
              clear hK K
              try simp only [Act.put, List.setIfInBounds_toArray, List.set_cons_zero, List.set_cons_succ]
              refine takeF rfl (fun _ => trivial) 12 (some 34) (.bool true) (by kernel_rfl) (by kernel_rfl) (by kernel_rfl) (by kernel_rfl) (fun _ _ _ h => h) (by rfl) ?hyd112 trivial ?restd112
              case hyd112 => (intro o ho W hW; simp only [List.getElem?_toArray, List.getElem?_cons_succ, List.getElem?_cons_zero, Option.some.injEq] at ho; subst ho; (try dsimp only at hW); skip; go_simp; try rfl)
              try simp only [Act.put, List.setIfInBounds_toArray, List.set_cons_zero, List.set_cons_succ]
              refine takeF rfl (fun _ => trivial) 13 (some 35) (.bool true) (by kernel_rfl) (by kernel_rfl) (by kernel_rfl) (by kernel_rfl) (fun _ _ _ h => h) (by rfl) ?hyd113 trivial ?restd113
              case hyd113 => (intro o ho W hW; simp only [List.getElem?_toArray, List.getElem?_cons_succ, List.getElem?_cons_zero, Option.some.injEq] at ho; subst ho; (try dsimp only at hW); skip; go_simp; try rfl)
              try simp only [Act.put, List.setIfInBounds_toArray, List.set_cons_zero, List.set_cons_succ]
              refine takeF rfl (fun _ => trivial) 14 (some 36) ?vd114 (by kernel_rfl) (by kernel_rfl) (by kernel_rfl) (by kernel_rfl) (fun _ _ _ h => h) (by rfl) ?hyd114 trivial ?restd114
              case hyd114 => (intro o ho W hW; simp only [List.getElem?_toArray, List.getElem?_cons_succ, List.getElem?_cons_zero, Option.some.injEq] at ho; subst ho; (try dsimp only at hW); skip; go_simp; try rfl)
              try simp only [Act.put, List.setIfInBounds_toArray, List.set_cons_zero, List.set_cons_succ]
              refine nextF 15 (by kernel_rfl) (by rfl) (fun o ho K hK => ?_)
              simp only [List.getElem?_toArray, List.getElem?_cons_succ, List.getElem?_cons_zero, Option.some.injEq] at ho; subst ho
              refine opIn_of (by intro c hc; cases hc) ?_
              go_simp
              refine hK.out _ _ trivial (fun _ => ?_)
              clear hK K
              try simp only [Act.put, List.setIfInBounds_toArray, List.set_cons_zero, List.set_cons_succ]
              refine nextF 16 (by kernel_rfl) (by rfl) (fun o ho K hK => ?_)
              simp only [List.getElem?_toArray, List.getElem?_cons_succ, List.getElem?_cons_zero, Option.some.injEq] at ho; subst ho
              refine ⟨fun _ _ => trivial, ?_⟩
              simp [Oper.semAt, execOp, resolve, invoke, go_sem, hyd]
              refine ⟨fun _ => by omega, hR2.out.mono ?_⟩
              rintro e W3 ⟨bb, rfl, hG⟩
              refine hK.out _ _ trivial (fun _ => ?_)
              clear hK K
              try simp only [Act.put, List.setIfInBounds_toArray, List.set_cons_zero, List.set_cons_succ]
              cases bb with
              | false =>
                refine takeF rfl (fun _ => trivial) 17 (some 39) ?vd1x17 (by kernel_rfl) (by kernel_rfl) (by kernel_rfl) (by kernel_rfl) (fun _ _ _ h => h) (by rfl) ?hyd1x17 trivial ?restd1x17
                case hyd1x17 => (intro o ho W hW; simp only [List.getElem?_toArray, List.getElem?_cons_succ, List.getElem?_cons_zero, Option.some.injEq] at ho; subst ho; (try dsimp only at hW); skip; go_simp; try rfl)
                try simp only [Act.put, List.setIfInBounds_toArray, List.set_cons_zero, List.set_cons_succ]
                refine takeF rfl (fun _ => trivial) 18 (some 40) ?vd1x18 (by kernel_rfl) (by kernel_rfl) (by kernel_rfl) (by kernel_rfl) (fun _ _ _ h => h) (by rfl) ?hyd1x18 trivial ?restd1x18
                case hyd1x18 => (intro o ho W hW; simp only [List.getElem?_toArray, List.getElem?_cons_succ, List.getElem?_cons_zero, Option.some.injEq] at ho; subst ho; (try dsimp only at hW); skip; go_simp; try rfl)
                try simp only [Act.put, List.setIfInBounds_toArray, List.set_cons_zero, List.set_cons_succ]
                refine doneF (by kernel_rfl) ?_ _
                refine NoPanic.normal ?_
                rw [if_neg (by decide)] at hG
                gi_wp2
                refine bodyPost_ret (results_none rfl _ _ _) rfl ?_
                exact ⟨⟨_, rfl⟩, .inr ⟨_, hG⟩⟩
              | true =>
                refine takeF rfl (fun _ => trivial) 17 (some 39) ?vd1y17 (by kernel_rfl) (by kernel_rfl) (by kernel_rfl) (by kernel_rfl) (fun _ _ _ h => h) (by rfl) ?hyd1y17 trivial ?restd1y17
                case hyd1y17 => (intro o ho W hW; simp only [List.getElem?_toArray, List.getElem?_cons_succ, List.getElem?_cons_zero, Option.some.injEq] at ho; subst ho; (try dsimp only at hW); skip; go_simp; try rfl)
                try simp only [Act.put, List.setIfInBounds_toArray, List.set_cons_zero, List.set_cons_succ]
                refine takeF rfl (fun _ => trivial) 18 (some 40) ?vd1y18 (by kernel_rfl) (by kernel_rfl) (by kernel_rfl) (by kernel_rfl) (fun _ _ _ h => h) (by rfl) ?hyd1y18 trivial ?restd1y18
                case hyd1y18 => (intro o ho W hW; simp only [List.getElem?_toArray, List.getElem?_cons_succ, List.getElem?_cons_zero, Option.some.injEq] at ho; subst ho; (try dsimp only at hW); skip; go_simp; try rfl)
                try simp only [Act.put, List.setIfInBounds_toArray, List.set_cons_zero, List.set_cons_succ]
                refine doneF (by kernel_rfl) ?_ _
                refine NoPanic.normal ?_
                rw [if_pos rfl] at hG
                obtain ⟨hJ3, hk3⟩ := hG
                gi_wp2
                go_roundw
                case rel => exact ⟨j + 1, pre ++ [v], by omega, by go_num, Nat.le_trans HS2.out.2.1 hk3.sz, HS2.out.1.trans hk3, ⟨by rw [List.append_assoc]; exact HP2.out⟩, hJ3⟩
                case measure => simp [intOf]; omega
            · simp only [List.getElem?_toArray, List.getElem?_cons_succ, List.getElem?_cons_zero, Option.some.injEq] at ho; subst ho
              refine opIn_of (by intro c hc; cases hc) ?_
              go_simp
              refine hK.out _ _ trivial (fun _ => ?_)
              clear hK K
              try simp only [Act.put, List.setIfInBounds_toArray, List.set_cons_zero, List.set_cons_succ]
              refine nextF 4 (by kernel_rfl) (by rfl) (fun o ho K hK => ?_)
              simp only [List.getElem?_toArray, List.getElem?_cons_succ, List.getElem?_cons_zero, Option.some.injEq] at ho; subst ho
              refine opIn_of (by intro c hc; cases hc) ?_
              go_simp
              refine hK.out _ _ trivial (fun _ => ?_)
              clear hK K
              try simp only [Act.put, List.setIfInBounds_toArray, List.set_cons_zero, List.set_cons_succ]
              refine nextF 11 (by kernel_rfl) (by rfl) (fun o ho K hK => ?_)
              simp only [List.getElem?_toArray, List.getElem?_cons_succ, List.getElem?_cons_zero, Option.some.injEq] at ho; subst ho
              refine opIn_of (by intro c hc; cases hc) ?_
              go_simp
              (go_at_call 35; (with_reducible refine CP.out.mono ?_); rintro e w' ⟨rfl, hw'⟩)
              rw [hw']
              refine hK.out _ _ trivial (fun _ => ?_)
              clear hK K
              try simp only [Act.put, List.setIfInBounds_toArray, List.set_cons_zero, List.set_cons_succ]
              refine takeF rfl (fun _ => trivial) 12 (some 34) (.bool true) (by kernel_rfl) (by kernel_rfl) (by kernel_rfl) (by kernel_rfl) (fun _ _ _ h => h) (by rfl) ?hyd212 trivial ?restd212
              case hyd212 => (intro o ho W hW; simp only [List.getElem?_toArray, List.getElem?_cons_succ, List.getElem?_cons_zero, Option.some.injEq] at ho; subst ho; (try dsimp only at hW); skip; go_simp; try rfl)
              try simp only [Act.put, List.setIfInBounds_toArray, List.set_cons_zero, List.set_cons_succ]
              refine takeF rfl (fun _ => trivial) 13 (some 35) (.bool true) (by kernel_rfl) (by kernel_rfl) (by kernel_rfl) (by kernel_rfl) (fun _ _ _ h => h) (by rfl) ?hyd213 trivial ?restd213
              case hyd213 => (intro o ho W hW; simp only [List.getElem?_toArray, List.getElem?_cons_succ, List.getElem?_cons_zero, Option.some.injEq] at ho; subst ho; (try dsimp only at hW); skip; go_simp; try rfl)
              try simp only [Act.put, List.setIfInBounds_toArray, List.set_cons_zero, List.set_cons_succ]
              refine takeF rfl (fun _ => trivial) 14 (some 36) ?vd214 (by kernel_rfl) (by kernel_rfl) (by kernel_rfl) (by kernel_rfl) (fun _ _ _ h => h) (by rfl) ?hyd214 trivial ?restd214
              case hyd214 => (intro o ho W hW; simp only [List.getElem?_toArray, List.getElem?_cons_succ, List.getElem?_cons_zero, Option.some.injEq] at ho; subst ho; (try dsimp only at hW); skip; go_simp; try rfl)
              try simp only [Act.put, List.setIfInBounds_toArray, List.set_cons_zero, List.set_cons_succ]
              refine nextF 15 (by kernel_rfl) (by rfl) (fun o ho K hK => ?_)
              simp only [List.getElem?_toArray, List.getElem?_cons_succ, List.getElem?_cons_zero, Option.some.injEq] at ho; subst ho
              refine opIn_of (by intro c hc; cases hc) ?_
              go_simp
              refine hK.out _ _ trivial (fun _ => ?_)
              clear hK K
              try simp only [Act.put, List.setIfInBounds_toArray, List.set_cons_zero, List.set_cons_succ]
              refine nextF 16 (by kernel_rfl) (by rfl) (fun o ho K hK => ?_)
              simp only [List.getElem?_toArray, List.getElem?_cons_succ, List.getElem?_cons_zero, Option.some.injEq] at ho; subst ho
              refine ⟨fun _ _ => trivial, ?_⟩
              simp [Oper.semAt, execOp, resolve, invoke, go_sem, hyd]
              refine ⟨fun _ => by omega, hR2.out.mono ?_⟩
              rintro e W3 ⟨bb, rfl, hG⟩
              refine hK.out _ _ trivial (fun _ => ?_)
              clear hK K
              try simp only [Act.put, List.setIfInBounds_toArray, List.set_cons_zero, List.set_cons_succ]
              cases bb with
              | false =>
                refine takeF rfl (fun _ => trivial) 17 (some 39) ?vd2x17 (by kernel_rfl) (by kernel_rfl) (by kernel_rfl) (by kernel_rfl) (fun _ _ _ h => h) (by rfl) ?hyd2x17 trivial ?restd2x17
                case hyd2x17 => (intro o ho W hW; simp only [List.getElem?_toArray, List.getElem?_cons_succ, List.getElem?_cons_zero, Option.some.injEq] at ho; subst ho; (try dsimp only at hW); skip; go_simp; try rfl)
                try simp only [Act.put, List.setIfInBounds_toArray, List.set_cons_zero, List.set_cons_succ]
                refine takeF rfl (fun _ => trivial) 18 (some 40) ?vd2x18 (by kernel_rfl) (by kernel_rfl) (by kernel_rfl) (by kernel_rfl) (fun _ _ _ h => h) (by rfl) ?hyd2x18 trivial ?restd2x18
                case hyd2x18 => (intro o ho W hW; simp only [List.getElem?_toArray, List.getElem?_cons_succ, List.getElem?_cons_zero, Option.some.injEq] at ho; subst ho; (try dsimp only at hW); skip; go_simp; try rfl)
                try simp only [Act.put, List.setIfInBounds_toArray, List.set_cons_zero, List.set_cons_succ]
                refine doneF (by kernel_rfl) ?_ _
                refine NoPanic.normal ?_
                rw [if_neg (by decide)] at hG
                gi_wp2
                refine bodyPost_ret (results_none rfl _ _ _) rfl ?_
                exact ⟨⟨_, rfl⟩, .inr ⟨_, hG⟩⟩
              | true =>
                refine takeF rfl (fun _ => trivial) 17 (some 39) ?vd2y17 (by kernel_rfl) (by kernel_rfl) (by kernel_rfl) (by kernel_rfl) (fun _ _ _ h => h) (by rfl) ?hyd2y17 trivial ?restd2y17
                case hyd2y17 => (intro o ho W hW; simp only [List.getElem?_toArray, List.getElem?_cons_succ, List.getElem?_cons_zero, Option.some.injEq] at ho; subst ho; (try dsimp only at hW); skip; go_simp; try rfl)
                try simp only [Act.put, List.setIfInBounds_toArray, List.set_cons_zero, List.set_cons_succ]
                refine takeF rfl (fun _ => trivial) 18 (some 40) ?vd2y18 (by kernel_rfl) (by kernel_rfl) (by kernel_rfl) (by kernel_rfl) (fun _ _ _ h => h) (by rfl) ?hyd2y18 trivial ?restd2y18
                case hyd2y18 => (intro o ho W hW; simp only [List.getElem?_toArray, List.getElem?_cons_succ, List.getElem?_cons_zero, Option.some.injEq] at ho; subst ho; (try dsimp only at hW); skip; go_simp; try rfl)
                try simp only [Act.put, List.setIfInBounds_toArray, List.set_cons_zero, List.set_cons_succ]
                refine doneF (by kernel_rfl) ?_ _
                refine NoPanic.normal ?_
                rw [if_pos rfl] at hG
                obtain ⟨hJ3, hk3⟩ := hG
                gi_wp2
                go_roundw
                case rel => exact ⟨j + 1, pre ++ [v], by omega, by go_num, Nat.le_trans HS2.out.2.1 hk3.sz, HS2.out.1.trans hk3, ⟨by rw [List.append_assoc]; exact HP2.out⟩, hJ3⟩
                case measure => simp [intOf]; omega
          · simp only [List.getElem?_toArray, List.getElem?_cons_succ, List.getElem?_cons_zero, Option.some.injEq] at ho; subst ho
            refine opIn_of (by intro c hc; cases hc) ?_
            go_simp
            refine hK.out _ _ trivial (fun _ => ?_)
            clear hK K
            try simp only [Act.put, List.setIfInBounds_toArray, List.set_cons_zero, List.set_cons_succ]
            refine fork2F 2 10 (by kernel_rfl) (by rfl) (by rfl) (fun o ho K hK => ?_) (fun o ho K hK => ?_)
            · simp only [List.getElem?_toArray, List.getElem?_cons_succ, List.getElem?_cons_zero, Option.some.injEq] at ho; subst ho
              refine opIn_of (by intro c hc; cases hc) ?_
              go_simp
              refine hK.out _ _ trivial (fun _ => ?_)
              clear hK K
              try simp only [Act.put, List.setIfInBounds_toArray, List.set_cons_zero, List.set_cons_succ]
              refine nextF 10 (by kernel_rfl) (by rfl) (fun o ho K hK => ?_)
              simp only [List.getElem?_toArray, List.getElem?_cons_succ, List.getElem?_cons_zero, Option.some.injEq] at ho; subst ho
              refine opIn_of (by intro c hc; cases hc) ?_
              go_simp
              refine hK.out _ _ trivial (fun _ => ?_)
              clear hK K
              try simp only [Act.put, List.setIfInBounds_toArray, List.set_cons_zero, List.set_cons_succ]
              refine nextF 11 (by kernel_rfl) (by rfl) (fun o ho K hK => ?_)
              simp only [List.getElem?_toArray, List.getElem?_cons_succ, List.getElem?_cons_zero, Option.some.injEq] at ho; subst ho
              refine opIn_of (by intro c hc; cases hc) ?_
              go_simp
              (go_at_call 35; (with_reducible refine CP.out.mono ?_); rintro e w' ⟨rfl, hw'⟩)
              rw [hw']
              refine hK.out _ _ trivial (fun _ => ?_)
              clear hK K
              try simp only [Act.put, List.setIfInBounds_toArray, List.set_cons_zero, List.set_cons_succ]
              refine takeF rfl (fun _ => trivial) 12 (some 34) (.bool true) (by kernel_rfl) (by kernel_rfl) (by kernel_rfl) (by kernel_rfl) (fun _ _ _ h => h) (by rfl) ?hyd312 trivial ?restd312
              case hyd312 => (intro o ho W hW; simp only [List.getElem?_toArray, List.getElem?_cons_succ, List.getElem?_cons_zero, Option.some.injEq] at ho; subst ho; (try dsimp only at hW); skip; go_simp; try rfl)
              try simp only [Act.put, List.setIfInBounds_toArray, List.set_cons_zero, List.set_cons_succ]
              refine takeF rfl (fun _ => trivial) 13 (some 35) (.bool true) (by kernel_rfl) (by kernel_rfl) (by kernel_rfl) (by kernel_rfl) (fun _ _ _ h => h) (by rfl) ?hyd313 trivial ?restd313
              case hyd313 => (intro o ho W hW; simp only [List.getElem?_toArray, List.getElem?_cons_succ, List.getElem?_cons_zero, Option.some.injEq] at ho; subst ho; (try dsimp only at hW); skip; go_simp; try rfl)
              try simp only [Act.put, List.setIfInBounds_toArray, List.set_cons_zero, List.set_cons_succ]
              refine takeF rfl (fun _ => trivial) 14 (some 36) ?vd314 (by kernel_rfl) (by kernel_rfl) (by kernel_rfl) (by kernel_rfl) (fun _ _ _ h => h) (by rfl) ?hyd314 trivial ?restd314
              case hyd314 => (intro o ho W hW; simp only [List.getElem?_toArray, List.getElem?_cons_succ, List.getElem?_cons_zero, Option.some.injEq] at ho; subst ho; (try dsimp only at hW); skip; go_simp; try rfl)
              try simp only [Act.put, List.setIfInBounds_toArray, List.set_cons_zero, List.set_cons_succ]
              refine nextF 15 (by kernel_rfl) (by rfl) (fun o ho K hK => ?_)
              simp only [List.getElem?_toArray, List.getElem?_cons_succ, List.getElem?_cons_zero, Option.some.injEq] at ho; subst ho
              refine opIn_of (by intro c hc; cases hc) ?_
              go_simp
              refine hK.out _ _ trivial (fun _ => ?_)
              clear hK K
              try simp only [Act.put, List.setIfInBounds_toArray, List.set_cons_zero, List.set_cons_succ]
              refine nextF 16 (by kernel_rfl) (by rfl) (fun o ho K hK => ?_)
              simp only [List.getElem?_toArray, List.getElem?_cons_succ, List.getElem?_cons_zero, Option.some.injEq] at ho; subst ho
              refine ⟨fun _ _ => trivial, ?_⟩
              simp [Oper.semAt, execOp, resolve, invoke, go_sem, hyd]
              refine ⟨fun _ => by omega, hR2.out.mono ?_⟩
              rintro e W3 ⟨bb, rfl, hG⟩
              refine hK.out _ _ trivial (fun _ => ?_)
              clear hK K
              try simp only [Act.put, List.setIfInBounds_toArray, List.set_cons_zero, List.set_cons_succ]
              cases bb with
              | false =>
                refine takeF rfl (fun _ => trivial) 17 (some 39) ?vd3x17 (by kernel_rfl) (by kernel_rfl) (by kernel_rfl) (by kernel_rfl) (fun _ _ _ h => h) (by rfl) ?hyd3x17 trivial ?restd3x17
                case hyd3x17 => (intro o ho W hW; simp only [List.getElem?_toArray, List.getElem?_cons_succ, List.getElem?_cons_zero, Option.some.injEq] at ho; subst ho; (try dsimp only at hW); skip; go_simp; try rfl)
                try simp only [Act.put, List.setIfInBounds_toArray, List.set_cons_zero, List.set_cons_succ]
                refine takeF rfl (fun _ => trivial) 18 (some 40) ?vd3x18 (by kernel_rfl) (by kernel_rfl) (by kernel_rfl) (by kernel_rfl) (fun _ _ _ h => h) (by rfl) ?hyd3x18 trivial ?restd3x18
                case hyd3x18 => (intro o ho W hW; simp only [List.getElem?_toArray, List.getElem?_cons_succ, List.getElem?_cons_zero, Option.some.injEq] at ho; subst ho; (try dsimp only at hW); skip; go_simp; try rfl)
                try simp only [Act.put, List.setIfInBounds_toArray, List.set_cons_zero, List.set_cons_succ]
                refine doneF (by kernel_rfl) ?_ _
                refine NoPanic.normal ?_
                rw [if_neg (by decide)] at hG
                gi_wp2
                refine bodyPost_ret (results_none rfl _ _ _) rfl ?_
                exact ⟨⟨_, rfl⟩, .inr ⟨_, hG⟩⟩
              | true =>
                refine takeF rfl (fun _ => trivial) 17 (some 39) ?vd3y17 (by kernel_rfl) (by kernel_rfl) (by kernel_rfl) (by kernel_rfl) (fun _ _ _ h => h) (by rfl) ?hyd3y17 trivial ?restd3y17
                case hyd3y17 => (intro o ho W hW; simp only [List.getElem?_toArray, List.getElem?_cons_succ, List.getElem?_cons_zero, Option.some.injEq] at ho; subst ho; (try dsimp only at hW); skip; go_simp; try rfl)
                try simp only [Act.put, List.setIfInBounds_toArray, List.set_cons_zero, List.set_cons_succ]
                refine takeF rfl (fun _ => trivial) 18 (some 40) ?vd3y18 (by kernel_rfl) (by kernel_rfl) (by kernel_rfl) (by kernel_rfl) (fun _ _ _ h => h) (by rfl) ?hyd3y18 trivial ?restd3y18
                case hyd3y18 => (intro o ho W hW; simp only [List.getElem?_toArray, List.getElem?_cons_succ, List.getElem?_cons_zero, Option.some.injEq] at ho; subst ho; (try dsimp only at hW); skip; go_simp; try rfl)
                try simp only [Act.put, List.setIfInBounds_toArray, List.set_cons_zero, List.set_cons_succ]
                refine doneF (by kernel_rfl) ?_ _
                refine NoPanic.normal ?_
                rw [if_pos rfl] at hG
                obtain ⟨hJ3, hk3⟩ := hG
                gi_wp2
                go_roundw
                case rel => exact ⟨j + 1, pre ++ [v], by omega, by go_num, Nat.le_trans HS2.out.2.1 hk3.sz, HS2.out.1.trans hk3, ⟨by rw [List.append_assoc]; exact HP2.out⟩, hJ3⟩
                case measure => simp [intOf]; omega
            · simp only [List.getElem?_toArray, List.getElem?_cons_succ, List.getElem?_cons_zero, Option.some.injEq] at ho; subst ho
              refine opIn_of (by intro c hc; cases hc) ?_
              go_simp
              refine hK.out _ _ trivial (fun _ => ?_)
              clear hK K
              try simp only [Act.put, List.setIfInBounds_toArray, List.set_cons_zero, List.set_cons_succ]
              refine nextF 2 (by kernel_rfl) (by rfl) (fun o ho K hK => ?_)
              simp only [List.getElem?_toArray, List.getElem?_cons_succ, List.getElem?_cons_zero, Option.some.injEq] at ho; subst ho
              refine opIn_of (by intro c hc; cases hc) ?_
              go_simp
              refine hK.out _ _ trivial (fun _ => ?_)
              clear hK K
              try simp only [Act.put, List.setIfInBounds_toArray, List.set_cons_zero, List.set_cons_succ]
              refine nextF 11 (by kernel_rfl) (by rfl) (fun o ho K hK => ?_)
              simp only [List.getElem?_toArray, List.getElem?_cons_succ, List.getElem?_cons_zero, Option.some.injEq] at ho; subst ho
              refine opIn_of (by intro c hc; cases hc) ?_
              go_simp
              (go_at_call 35; (with_reducible refine CP.out.mono ?_); rintro e w' ⟨rfl, hw'⟩)
              rw [hw']
              refine hK.out _ _ trivial (fun _ => ?_)
              clear hK K
              try simp only [Act.put, List.setIfInBounds_toArray, List.set_cons_zero, List.set_cons_succ]
              refine takeF rfl (fun _ => trivial) 12 (some 34) (.bool true) (by kernel_rfl) (by kernel_rfl) (by kernel_rfl) (by kernel_rfl) (fun _ _ _ h => h) (by rfl) ?hyd412 trivial ?restd412
              case hyd412 => (intro o ho W hW; simp only [List.getElem?_toArray, List.getElem?_cons_succ, List.getElem?_cons_zero, Option.some.injEq] at ho; subst ho; (try dsimp only at hW); skip; go_simp; try rfl)
              try simp only [Act.put, List.setIfInBounds_toArray, List.set_cons_zero, List.set_cons_succ]
              refine takeF rfl (fun _ => trivial) 13 (some 35) (.bool true) (by kernel_rfl) (by kernel_rfl) (by kernel_rfl) (by kernel_rfl) (fun _ _ _ h => h) (by rfl) ?hyd413 trivial ?restd413
              case hyd413 => (intro o ho W hW; simp only [List.getElem?_toArray, List.getElem?_cons_succ, List.getElem?_cons_zero, Option.some.injEq] at ho; subst ho; (try dsimp only at hW); skip; go_simp; try rfl)
              try simp only [Act.put, List.setIfInBounds_toArray, List.set_cons_zero, List.set_cons_succ]
              refine takeF rfl (fun _ => trivial) 14 (some 36) ?vd414 (by kernel_rfl) (by kernel_rfl) (by kernel_rfl) (by kernel_rfl) (fun _ _ _ h => h) (by rfl) ?hyd414 trivial ?restd414
              case hyd414 => (intro o ho W hW; simp only [List.getElem?_toArray, List.getElem?_cons_succ, List.getElem?_cons_zero, Option.some.injEq] at ho; subst ho; (try dsimp only at hW); skip; go_simp; try rfl)
              try simp only [Act.put, List.setIfInBounds_toArray, List.set_cons_zero, List.set_cons_succ]
              refine nextF 15 (by kernel_rfl) (by rfl) (fun o ho K hK => ?_)
              simp only [List.getElem?_toArray, List.getElem?_cons_succ, List.getElem?_cons_zero, Option.some.injEq] at ho; subst ho
              refine opIn_of (by intro c hc; cases hc) ?_
              go_simp
              refine hK.out _ _ trivial (fun _ => ?_)
              clear hK K
              try simp only [Act.put, List.setIfInBounds_toArray, List.set_cons_zero, List.set_cons_succ]
              refine nextF 16 (by kernel_rfl) (by rfl) (fun o ho K hK => ?_)
              simp only [List.getElem?_toArray, List.getElem?_cons_succ, List.getElem?_cons_zero, Option.some.injEq] at ho; subst ho
              refine ⟨fun _ _ => trivial, ?_⟩
              simp [Oper.semAt, execOp, resolve, invoke, go_sem, hyd]
              refine ⟨fun _ => by omega, hR2.out.mono ?_⟩
              rintro e W3 ⟨bb, rfl, hG⟩
              refine hK.out _ _ trivial (fun _ => ?_)
              clear hK K
              try simp only [Act.put, List.setIfInBounds_toArray, List.set_cons_zero, List.set_cons_succ]
              cases bb with
              | false =>
                refine takeF rfl (fun _ => trivial) 17 (some 39) ?vd4x17 (by kernel_rfl) (by kernel_rfl) (by kernel_rfl) (by kernel_rfl) (fun _ _ _ h => h) (by rfl) ?hyd4x17 trivial ?restd4x17
                case hyd4x17 => (intro o ho W hW; simp only [List.getElem?_toArray, List.getElem?_cons_succ, List.getElem?_cons_zero, Option.some.injEq] at ho; subst ho; (try dsimp only at hW); skip; go_simp; try rfl)
                try simp only [Act.put, List.setIfInBounds_toArray, List.set_cons_zero, List.set_cons_succ]
                refine takeF rfl (fun _ => trivial) 18 (some 40) ?vd4x18 (by kernel_rfl) (by kernel_rfl) (by kernel_rfl) (by kernel_rfl) (fun _ _ _ h => h) (by rfl) ?hyd4x18 trivial ?restd4x18
                case hyd4x18 => (intro o ho W hW; simp only [List.getElem?_toArray, List.getElem?_cons_succ, List.getElem?_cons_zero, Option.some.injEq] at ho; subst ho; (try dsimp only at hW); skip; go_simp; try rfl)
                try simp only [Act.put, List.setIfInBounds_toArray, List.set_cons_zero, List.set_cons_succ]
                refine doneF (by kernel_rfl) ?_ _
                refine NoPanic.normal ?_
                rw [if_neg (by decide)] at hG
                gi_wp2
                refine bodyPost_ret (results_none rfl _ _ _) rfl ?_
                exact ⟨⟨_, rfl⟩, .inr ⟨_, hG⟩⟩
              | true =>
                refine takeF rfl (fun _ => trivial) 17 (some 39) ?vd4y17 (by kernel_rfl) (by kernel_rfl) (by kernel_rfl) (by kernel_rfl) (fun _ _ _ h => h) (by rfl) ?hyd4y17 trivial ?restd4y17
                case hyd4y17 => (intro o ho W hW; simp only [List.getElem?_toArray, List.getElem?_cons_succ, List.getElem?_cons_zero, Option.some.injEq] at ho; subst ho; (try dsimp only at hW); skip; go_simp; try rfl)
                try simp only [Act.put, List.setIfInBounds_toArray, List.set_cons_zero, List.set_cons_succ]
                refine takeF rfl (fun _ => trivial) 18 (some 40) ?vd4y18 (by kernel_rfl) (by kernel_rfl) (by kernel_rfl) (by kernel_rfl) (fun _ _ _ h => h) (by rfl) ?hyd4y18 trivial ?restd4y18
                case hyd4y18 => (intro o ho W hW; simp only [List.getElem?_toArray, List.getElem?_cons_succ, List.getElem?_cons_zero, Option.some.injEq] at ho; subst ho; (try dsimp only at hW); skip; go_simp; try rfl)
                try simp only [Act.put, List.setIfInBounds_toArray, List.set_cons_zero, List.set_cons_succ]
                refine doneF (by kernel_rfl) ?_ _
                refine NoPanic.normal ?_
                rw [if_pos rfl] at hG
                obtain ⟨hJ3, hk3⟩ := hG
                gi_wp2
                go_roundw
                case rel => exact ⟨j + 1, pre ++ [v], by omega, by go_num, Nat.le_trans HS2.out.2.1 hk3.sz, HS2.out.1.trans hk3, ⟨by rw [List.append_assoc]; exact HP2.out⟩, hJ3⟩
                case measure => simp [intOf]; omega
          · simp only [List.getElem?_toArray, List.getElem?_cons_succ, List.getElem?_cons_zero, Option.some.injEq] at ho; subst ho
            refine opIn_of (by intro c hc; cases hc) ?_
            go_simp
            refine hK.out _ _ trivial (fun _ => ?_)
            clear hK K
            try simp only [Act.put, List.setIfInBounds_toArray, List.set_cons_zero, List.set_cons_succ]
            refine fork2F 2 4 (by kernel_rfl) (by rfl) (by rfl) (fun o ho K hK => ?_) (fun o ho K hK => ?_)
            · simp only [List.getElem?_toArray, List.getElem?_cons_succ, List.getElem?_cons_zero, Option.some.injEq] at ho; subst ho
              refine opIn_of (by intro c hc; cases hc) ?_
              go_simp
              refine hK.out _ _ trivial (fun _ => ?_)
              clear hK K
              try simp only [Act.put, List.setIfInBounds_toArray, List.set_cons_zero, List.set_cons_succ]
              refine nextF 4 (by kernel_rfl) (by rfl) (fun o ho K hK => ?_)
              simp only [List.getElem?_toArray, List.getElem?_cons_succ, List.getElem?_cons_zero, Option.some.injEq] at ho; subst ho
              refine opIn_of (by intro c hc; cases hc) ?_
              go_simp
              refine hK.out _ _ trivial (fun _ => ?_)
              clear hK K
              try simp only [Act.put, List.setIfInBounds_toArray, List.set_cons_zero, List.set_cons_succ]
              refine nextF 11 (by kernel_rfl) (by rfl) (fun o ho K hK => ?_)
              simp only [List.getElem?_toArray, List.getElem?_cons_succ, List.getElem?_cons_zero, Option.some.injEq] at ho; subst ho
              refine opIn_of (by intro c hc; cases hc) ?_
              go_simp
              (go_at_call 35; (with_reducible refine CP.out.mono ?_); rintro e w' ⟨rfl, hw'⟩)
              rw [hw']
              refine hK.out _ _ trivial (fun _ => ?_)
              clear hK K
              try simp only [Act.put, List.setIfInBounds_toArray, List.set_cons_zero, List.set_cons_succ]
              refine takeF rfl (fun _ => trivial) 12 (some 34) (.bool true) (by kernel_rfl) (by kernel_rfl) (by kernel_rfl) (by kernel_rfl) (fun _ _ _ h => h) (by rfl) ?hyd512 trivial ?restd512
              case hyd512 => (intro o ho W hW; simp only [List.getElem?_toArray, List.getElem?_cons_succ, List.getElem?_cons_zero, Option.some.injEq] at ho; subst ho; (try dsimp only at hW); skip; go_simp; try rfl)
              try simp only [Act.put, List.setIfInBounds_toArray, List.set_cons_zero, List.set_cons_succ]
              refine takeF rfl (fun _ => trivial) 13 (some 35) (.bool true) (by kernel_rfl) (by kernel_rfl) (by kernel_rfl) (by kernel_rfl) (fun _ _ _ h => h) (by rfl) ?hyd513 trivial ?restd513
              case hyd513 => (intro o ho W hW; simp only [List.getElem?_toArray, List.getElem?_cons_succ, List.getElem?_cons_zero, Option.some.injEq] at ho; subst ho; (try dsimp only at hW); skip; go_simp; try rfl)
              try simp only [Act.put, List.setIfInBounds_toArray, List.set_cons_zero, List.set_cons_succ]
              refine takeF rfl (fun _ => trivial) 14 (some 36) ?vd514 (by kernel_rfl) (by kernel_rfl) (by kernel_rfl) (by kernel_rfl) (fun _ _ _ h => h) (by rfl) ?hyd514 trivial ?restd514
              case hyd514 => (intro o ho W hW; simp only [List.getElem?_toArray, List.getElem?_cons_succ, List.getElem?_cons_zero, Option.some.injEq] at ho; subst ho; (try dsimp only at hW); skip; go_simp; try rfl)
              try simp only [Act.put, List.setIfInBounds_toArray, List.set_cons_zero, List.set_cons_succ]
              refine nextF 15 (by kernel_rfl) (by rfl) (fun o ho K hK => ?_)
              simp only [List.getElem?_toArray, List.getElem?_cons_succ, List.getElem?_cons_zero, Option.some.injEq] at ho; subst ho
              refine opIn_of (by intro c hc; cases hc) ?_
              go_simp
              refine hK.out _ _ trivial (fun _ => ?_)
              clear hK K
              try simp only [Act.put, List.setIfInBounds_toArray, List.set_cons_zero, List.set_cons_succ]
              refine nextF 16 (by kernel_rfl) (by rfl) (fun o ho K hK => ?_)
              simp only [List.getElem?_toArray, List.getElem?_cons_succ, List.getElem?_cons_zero, Option.some.injEq] at ho; subst ho
              refine ⟨fun _ _ => trivial, ?_⟩
              simp [Oper.semAt, execOp, resolve, invoke, go_sem, hyd]
              refine ⟨fun _ => by omega, hR2.out.mono ?_⟩
              rintro e W3 ⟨bb, rfl, hG⟩
              refine hK.out _ _ trivial (fun _ => ?_)
              clear hK K
              try simp only [Act.put, List.setIfInBounds_toArray, List.set_cons_zero, List.set_cons_succ]
              cases bb with
              | false =>
                refine takeF rfl (fun _ => trivial) 17 (some 39) ?vd5x17 (by kernel_rfl) (by kernel_rfl) (by kernel_rfl) (by kernel_rfl) (fun _ _ _ h => h) (by rfl) ?hyd5x17 trivial ?restd5x17
                case hyd5x17 => (intro o ho W hW; simp only [List.getElem?_toArray, List.getElem?_cons_succ, List.getElem?_cons_zero, Option.some.injEq] at ho; subst ho; (try dsimp only at hW); skip; go_simp; try rfl)
                try simp only [Act.put, List.setIfInBounds_toArray, List.set_cons_zero, List.set_cons_succ]
                refine takeF rfl (fun _ => trivial) 18 (some 40) ?vd5x18 (by kernel_rfl) (by kernel_rfl) (by kernel_rfl) (by kernel_rfl) (fun _ _ _ h => h) (by rfl) ?hyd5x18 trivial ?restd5x18
                case hyd5x18 => (intro o ho W hW; simp only [List.getElem?_toArray, List.getElem?_cons_succ, List.getElem?_cons_zero, Option.some.injEq] at ho; subst ho; (try dsimp only at hW); skip; go_simp; try rfl)
                try simp only [Act.put, List.setIfInBounds_toArray, List.set_cons_zero, List.set_cons_succ]
                refine doneF (by kernel_rfl) ?_ _
                refine NoPanic.normal ?_
                rw [if_neg (by decide)] at hG
                gi_wp2
                refine bodyPost_ret (results_none rfl _ _ _) rfl ?_
                exact ⟨⟨_, rfl⟩, .inr ⟨_, hG⟩⟩
              | true =>
                refine takeF rfl (fun _ => trivial) 17 (some 39) ?vd5y17 (by kernel_rfl) (by kernel_rfl) (by kernel_rfl) (by kernel_rfl) (fun _ _ _ h => h) (by rfl) ?hyd5y17 trivial ?restd5y17
                case hyd5y17 => (intro o ho W hW; simp only [List.getElem?_toArray, List.getElem?_cons_succ, List.getElem?_cons_zero, Option.some.injEq] at ho; subst ho; (try dsimp only at hW); skip; go_simp; try rfl)
                try simp only [Act.put, List.setIfInBounds_toArray, List.set_cons_zero, List.set_cons_succ]
                refine takeF rfl (fun _ => trivial) 18 (some 40) ?vd5y18 (by kernel_rfl) (by kernel_rfl) (by kernel_rfl) (by kernel_rfl) (fun _ _ _ h => h) (by rfl) ?hyd5y18 trivial ?restd5y18
                case hyd5y18 => (intro o ho W hW; simp only [List.getElem?_toArray, List.getElem?_cons_succ, List.getElem?_cons_zero, Option.some.injEq] at ho; subst ho; (try dsimp only at hW); skip; go_simp; try rfl)
                try simp only [Act.put, List.setIfInBounds_toArray, List.set_cons_zero, List.set_cons_succ]
                refine doneF (by kernel_rfl) ?_ _
                refine NoPanic.normal ?_
                rw [if_pos rfl] at hG
                obtain ⟨hJ3, hk3⟩ := hG
                gi_wp2
                go_roundw
                case rel => exact ⟨j + 1, pre ++ [v], by omega, by go_num, Nat.le_trans HS2.out.2.1 hk3.sz, HS2.out.1.trans hk3, ⟨by rw [List.append_assoc]; exact HP2.out⟩, hJ3⟩
                case measure => simp [intOf]; omega
            · simp only [List.getElem?_toArray, List.getElem?_cons_succ, List.getElem?_cons_zero, Option.some.injEq] at ho; subst ho
              refine opIn_of (by intro c hc; cases hc) ?_
              go_simp
              refine hK.out _ _ trivial (fun _ => ?_)
              clear hK K
              try simp only [Act.put, List.setIfInBounds_toArray, List.set_cons_zero, List.set_cons_succ]
              refine nextF 2 (by kernel_rfl) (by rfl) (fun o ho K hK => ?_)
              simp only [List.getElem?_toArray, List.getElem?_cons_succ, List.getElem?_cons_zero, Option.some.injEq] at ho; subst ho
              refine opIn_of (by intro c hc; cases hc) ?_
              go_simp
              refine hK.out _ _ trivial (fun _ => ?_)
              clear hK K
              try simp only [Act.put, List.setIfInBounds_toArray, List.set_cons_zero, List.set_cons_succ]
              refine nextF 11 (by kernel_rfl) (by rfl) (fun o ho K hK => ?_)
              simp only [List.getElem?_toArray, List.getElem?_cons_succ, List.getElem?_cons_zero, Option.some.injEq] at ho; subst ho
              refine opIn_of (by intro c hc; cases hc) ?_
              go_simp
              (go_at_call 35; (with_reducible refine CP.out.mono ?_); rintro e w' ⟨rfl, hw'⟩)
              rw [hw']
              refine hK.out _ _ trivial (fun _ => ?_)
              clear hK K
              try simp only [Act.put, List.setIfInBounds_toArray, List.set_cons_zero, List.set_cons_succ]
              refine takeF rfl (fun _ => trivial) 12 (some 34) (.bool true) (by kernel_rfl) (by kernel_rfl) (by kernel_rfl) (by kernel_rfl) (fun _ _ _ h => h) (by rfl) ?hyd612 trivial ?restd612
              case hyd612 => (intro o ho W hW; simp only [List.getElem?_toArray, List.getElem?_cons_succ, List.getElem?_cons_zero, Option.some.injEq] at ho; subst ho; (try dsimp only at hW); skip; go_simp; try rfl)
              try simp only [Act.put, List.setIfInBounds_toArray, List.set_cons_zero, List.set_cons_succ]
              refine takeF rfl (fun _ => trivial) 13 (some 35) (.bool true) (by kernel_rfl) (by kernel_rfl) (by kernel_rfl) (by kernel_rfl) (fun _ _ _ h => h) (by rfl) ?hyd613 trivial ?restd613
              case hyd613 => (intro o ho W hW; simp only [List.getElem?_toArray, List.getElem?_cons_succ, List.getElem?_cons_zero, Option.some.injEq] at ho; subst ho; (try dsimp only at hW); skip; go_simp; try rfl)
              try simp only [Act.put, List.setIfInBounds_toArray, List.set_cons_zero, List.set_cons_succ]
              refine takeF rfl (fun _ => trivial) 14 (some 36) ?vd614 (by kernel_rfl) (by kernel_rfl) (by kernel_rfl) (by kernel_rfl) (fun _ _ _ h => h) (by rfl) ?hyd614 trivial ?restd614
              case hyd614 => (intro o ho W hW; simp only [List.getElem?_toArray, List.getElem?_cons_succ, List.getElem?_cons_zero, Option.some.injEq] at ho; subst ho; (try dsimp only at hW); skip; go_simp; try rfl)
              try simp only [Act.put, List.setIfInBounds_toArray, List.set_cons_zero, List.set_cons_succ]
              refine nextF 15 (by kernel_rfl) (by rfl) (fun o ho K hK => ?_)
              simp only [List.getElem?_toArray, List.getElem?_cons_succ, List.getElem?_cons_zero, Option.some.injEq] at ho; subst ho
              refine opIn_of (by intro c hc; cases hc) ?_
              go_simp
              refine hK.out _ _ trivial (fun _ => ?_)
              clear hK K
              try simp only [Act.put, List.setIfInBounds_toArray, List.set_cons_zero, List.set_cons_succ]
              refine nextF 16 (by kernel_rfl) (by rfl) (fun o ho K hK => ?_)
              simp only [List.getElem?_toArray, List.getElem?_cons_succ, List.getElem?_cons_zero, Option.some.injEq] at ho; subst ho
              refine ⟨fun _ _ => trivial, ?_⟩
              simp [Oper.semAt, execOp, resolve, invoke, go_sem, hyd]
              refine ⟨fun _ => by omega, hR2.out.mono ?_⟩
              rintro e W3 ⟨bb, rfl, hG⟩
              refine hK.out _ _ trivial (fun _ => ?_)
              clear hK K
              try simp only [Act.put, List.setIfInBounds_toArray, List.set_cons_zero, List.set_cons_succ]
              cases bb with
              | false =>
                refine takeF rfl (fun _ => trivial) 17 (some 39) ?vd6x17 (by kernel_rfl) (by kernel_rfl) (by kernel_rfl) (by kernel_rfl) (fun _ _ _ h => h) (by rfl) ?hyd6x17 trivial ?restd6x17
                case hyd6x17 => (intro o ho W hW; simp only [List.getElem?_toArray, List.getElem?_cons_succ, List.getElem?_cons_zero, Option.some.injEq] at ho; subst ho; (try dsimp only at hW); skip; go_simp; try rfl)
                try simp only [Act.put, List.setIfInBounds_toArray, List.set_cons_zero, List.set_cons_succ]
                refine takeF rfl (fun _ => trivial) 18 (some 40) ?vd6x18 (by kernel_rfl) (by kernel_rfl) (by kernel_rfl) (by kernel_rfl) (fun _ _ _ h => h) (by rfl) ?hyd6x18 trivial ?restd6x18
                case hyd6x18 => (intro o ho W hW; simp only [List.getElem?_toArray, List.getElem?_cons_succ, List.getElem?_cons_zero, Option.some.injEq] at ho; subst ho; (try dsimp only at hW); skip; go_simp; try rfl)
                try simp only [Act.put, List.setIfInBounds_toArray, List.set_cons_zero, List.set_cons_succ]
                refine doneF (by kernel_rfl) ?_ _
                refine NoPanic.normal ?_
                rw [if_neg (by decide)] at hG
                gi_wp2
                refine bodyPost_ret (results_none rfl _ _ _) rfl ?_
                exact ⟨⟨_, rfl⟩, .inr ⟨_, hG⟩⟩
              | true =>
                refine takeF rfl (fun _ => trivial) 17 (some 39) ?vd6y17 (by kernel_rfl) (by kernel_rfl) (by kernel_rfl) (by kernel_rfl) (fun _ _ _ h => h) (by rfl) ?hyd6y17 trivial ?restd6y17
                case hyd6y17 => (intro o ho W hW; simp only [List.getElem?_toArray, List.getElem?_cons_succ, List.getElem?_cons_zero, Option.some.injEq] at ho; subst ho; (try dsimp only at hW); skip; go_simp; try rfl)
                try simp only [Act.put, List.setIfInBounds_toArray, List.set_cons_zero, List.set_cons_succ]
                refine takeF rfl (fun _ => trivial) 18 (some 40) ?vd6y18 (by kernel_rfl) (by kernel_rfl) (by kernel_rfl) (by kernel_rfl) (fun _ _ _ h => h) (by rfl) ?hyd6y18 trivial ?restd6y18
                case hyd6y18 => (intro o ho W hW; simp only [List.getElem?_toArray, List.getElem?_cons_succ, List.getElem?_cons_zero, Option.some.injEq] at ho; subst ho; (try dsimp only at hW); skip; go_simp; try rfl)
                try simp only [Act.put, List.setIfInBounds_toArray, List.set_cons_zero, List.set_cons_succ]
                refine doneF (by kernel_rfl) ?_ _
                refine NoPanic.normal ?_
                rw [if_pos rfl] at hG
                obtain ⟨hJ3, hk3⟩ := hG
                gi_wp2
                go_roundw
                case rel => exact ⟨j + 1, pre ++ [v], by omega, by go_num, Nat.le_trans HS2.out.2.1 hk3.sz, HS2.out.1.trans hk3, ⟨by rw [List.append_assoc]; exact HP2.out⟩, hJ3⟩
                case measure => simp [intOf]; omega
    · have hd0 : D.ned ps (vs.drop j) = [] := by rw [List.drop_of_length_le (by have := hlen.out; omega)]; rfl
      have hpe : pre = D.ned ps vs := by have := HP.out; rwa [hd0, List.append_nil] at this
      gi_wp2
      go_end0
      exact ⟨⟨_, rfl⟩, .inl ⟨pre, hpe, hJ⟩⟩
theorem need_stops (n : Nat) (hn : 6 ≤ n) (m : Nat) (hm : m ≤ 1000) (b0 b1 b base : Nat) (p A : Option Addr) (c : Nat) (vs : List D.Vn) (ps : List Nat) (hps : ps.length ≤ 1000) (n0 : Nat) (X : List Nat)
    (w : World) (h0 : w.cell? ⟨b0, 0, none⟩ = some (.pointer p)) (h1 : w.cell? ⟨b1, 0, none⟩ = some (.func (.func 35) #[] #[.pointer (some ⟨b, 0, none⟩)])) (hal : Al w p A m c vs) (hbt : Btw w base b ps)
    (hX1 : b1 < n0 ∧ b1 ∉ X) (hXv : ∀ ad, A = some ad → 0 < m → ad.block < n0 ∧ ad.block ∉ X) (hXb : ∀ q, base ≤ q → q < w.heap.size → q < n0 ∧ q ∉ X) (h0n : n0 ≤ w.heap.size) :
    SeqStopsK Fence.wide n Try.prog 37 #[.pointer (some ⟨b0, 0, none⟩), .pointer (some ⟨b1, 0, none⟩)] (fun y : D.Vn => #[.agg (vS.v y)]) (Kq n0 X) (fun ys => ys = D.ned ps vs) (fun _ => True) (D.ned ps vs).length w := fun l J Jx W hW hJ _ hY hJ0 =>
  (need_in n hn m hm l b0 b1 b base p A c vs ps hps n0 X J Jx w W hW h0 h1 hal hbt hX1 hXv hXb h0n hJ hY hJ0).mono fun e W' ⟨h1, h2⟩ => ⟨h1, h2.elim .inl fun ⟨pre, h⟩ => .inr ⟨pre, trivial, h⟩⟩
end Go.Proofs.Ytcnbdfobhablbaa
