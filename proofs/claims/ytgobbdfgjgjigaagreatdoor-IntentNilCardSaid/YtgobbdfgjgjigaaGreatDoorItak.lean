/-
  Take of a table of keys' owners.
-/
import Derived.Test.YtgobbdfgjgjigaaGreatDoorImy
set_option linter.unusedVariables false
set_option linter.unusedSimpArgs false
set_option maxRecDepth 100000
namespace Go.Proofs.YtgobbdfgjgjigaaGreatDoor
open Go.RowKit
attribute [local go_sem ↓] Go.wp_at_zero Go.wp_at_succ ld_k lv_k st_k eq_k ne_k bd_k Nm.ld_a Nm.ld_n Nm.st_a Nm.st_n Nm.eq_a Nm.eq_n Nm.ne_a Nm.ne_n Nm.lv_a Nm.lv_n ld_a ld_n st_a st_n eq_a eq_n ne_a ne_n lv_a lv_n
attribute [local go_sem] run_ldk run_lvk run_stk run_eqk run_nek run_bdk_z Nm.run_ld_a Nm.run_ld_n Nm.run_st_n Nm.run_eq_a Nm.run_eq_n Nm.run_ne_a Nm.run_ne_n Nm.run_lv_a Nm.run_lv_n Nm.rd_new Nm.rd_old Nm.rd_drew Nm.rd_drewN run_ld_a run_ld_n run_sw_a run_sw_n run_eq_a run_eq_n run_ne_a run_ne_n run_lv_a run_lv_n st_z ne_z eq_z rd_new rd_old rd_drew rd_drewN Shp.rd_new Shp.rd_old Shp.rd_drew Shp.rd_drewN Shp.rd_set Shp.tn_new Shp.tn_old Shp.tn_drew Shp.tn_drewN setRow_alloc run_stn3 run_stt15 bdk1 bdk2 bdk3 bdk4
/-- What Take tells. -/
def Took (base p : Nat) (M : Option Nat) (s : D.It) (r : D.It × Nat) (w : World) (e : Ending) (w' : World) : Prop :=
  e = .returned (.tuple #[.int .i64 ((r.1.n : Int) - (s.n : Int)), .int .i64 (r.2 : Nat)]) ∧ ∃ M', TabI base w' p M' r.1 ∧ Only (Sf p M) w w' ∧ Nxt w.heap.size M M'
theorem drop_cons' {α : Type} {l : List α} {k : Nat} {x : α} (h : l[k]? = some x) : l.drop k = x :: l.drop (k + 1) := by
  obtain ⟨h1, h2⟩ := List.getElem?_eq_some_iff.1 h
  rw [List.drop_eq_getElem_cons h1, h2]
set_option maxHeartbeats 2000000 in
theorem take_some {base p b : Nat} {w : World} {s : D.It} (hs : TabI base w p (some b) s) {o : Int} (o1 : 1 ≤ o) (o2 : o ≤ 9223372036854775807) {A : Option Addr} {n c : Nat} {l : List D.Ky} (hl : Shp.Row kS w A n l) (hA : ∀ ad, A = some ad → ¬ Sf p (some b) ad.block) (hn : n ≤ 1000) (hsn : s.n ≤ 10000) :
    Calls Tryz.prog 9 #[.pointer (some ⟨p, 0, none⟩), .int .i64 o, .slice A n c] w (Took base p (some b) s (s.take o l) w) := by
  have he : ∀ W : World, (binOp .eql 31 (.map (some b)) (.map none)).run Tryz.prog W = .ok (.bool false) W := fun _ => rfl
  have c0 := hs.blk.cell
  have hlen := fun ty => hs.len ty
  have HT0 := Lib.hid hs
  have HO0 : Hid (Only (Sf p (some b)) w w) := Lib.hid (Only.self _ _)
  have HR := Lib.hid hl
  clear hs hl
  go_enter Tryz.func9, Tryz.ntmps9
  go_wp2
  clear he
  try clear hmm hpf hpc c0 c1 len0 hlen
  go_loopw [32] (fun i wr => ∃ (k : Nat) (s1 : D.It), k ≤ n ∧ i = .int .i64 k ∧ Hid (TabI base wr p (some b) s1) ∧ Hid (s.take o l = s1.take o (l.drop k)) ∧ Hid (s.n ≤ s1.n ∧ s1.n ≤ s.n + k) ∧ Hid (Only (Sf p (some b)) w wr)) (fun i _ => n - (intOf i).toNat)
  case atStart => exact ⟨0, s, Nat.zero_le _, rfl, HT0, Lib.hid (by rw [List.drop_zero]), Lib.hid ⟨Nat.le_refl _, Nat.le_refl _⟩, HO0⟩
  case round =>
    obtain ⟨k, s1, hk, rfl, HT, HQ, HN, HO⟩ := hrel
    clear HT0 HO0
    by_cases hlt : k < n
    · obtain ⟨x, hx⟩ : ∃ x, l[k]? = some x := ⟨_, List.getElem?_eq_getElem (by rw [HR.out.len]; exact hlt)⟩
      obtain ⟨ad, rfl, hadl, hr⟩ := (KRow.only HR.out HO.out hA).rd hx
      have HX := Lib.hid (drop_cons' hx)
      have i1 : (k : Int) < (n : Int) := by omega
      have i0 : (0 : Int) ≤ (k : Int) := by omega
      have hr2 : kS.rd wr (ad.add (k * 25)) = some x := hr
      have bW := below_alloc_ wr (.cells (kS.v x) 30)
      have HTW := Lib.hid (HT.out.on bW)
      have HOW := Lib.hid (HO.out.on bW)
      have f1 := Shp.rd_new (S := kS) wr wr.heap.size 30 x rfl
      obtain ⟨W1, hW1⟩ : ∃ W1, wr.alloc (.cells (kS.v x) 30) = W1 := ⟨_, rfl⟩
      rw [hW1] at f1 HTW HOW bW
      have HF := Lib.hid f1
      have hlen := fun ty => HTW.out.len ty
      have CM := Lib.hid (may_any HTW.out o x)
      have hn1 := HN.out
      have heW := s1.err_le o x
      obtain ⟨q, hq⟩ : ∃ q, s1.err o x = q := ⟨_, rfl⟩
      rw [hq] at CM heW
      have HE := Lib.hid hq
      clear hq hx hr HT HO
      have hzW : wr.heap.size ≤ W1.heap.size := bW.size
      clear bW
      by_cases h0 : q = 0
      · subst h0
        have CM : Hid (Calls Tryz.prog 21 #[.pointer (some ⟨p, 0, none⟩), .int .i64 o, .agg (kS.v x)] W1 fun e w' => e = .returned (.int .i64 0) ∧ Below W1.heap.size W1 w') := CM
        go_wp2_with fail
        try rw [hW1]
        clear hW1
        go_wp2_with (go_at_call 21; (with_reducible refine CM.out.mono ?_); rintro e w2 ⟨rfl, b2⟩; have HT2 := Lib.hid (HTW.out.on b2); have HO2 := Lib.hid (HOW.out.on b2); have f2 := Shp.rd_on HF.out b2; have c2 := HT2.out.blk.cell; clear b2)
        go_still_tail 6, (by kernel_rfl)
        change wpList _ _ _ _ _ w2.drew
        have B2 := (HT2.out.blk.drew)
        obtain ⟨w3, hput, hm3, hg3⟩ := (HT2.out.at_ _ rfl).1.drew.put (by omega) x (o := o) (by omega) o2
        have hbb := (HT2.out.at_ _ rfl).2
        have hpb := (HT2.out.at_ _ rfl).1.no_cells HT2.out.blk
        have HB3 := Lib.hid (B2.grown hg3 (by intro e; injection e with e; exact hpb e))
        have HO3 := Lib.hid ((HO2.out.drewN 1).grown hg3 (fun j hj => .inl (.inr hj)))
        have HM3 := Lib.hid hm3
        clear B2 hm3 hg3
        go_wp2
        go_roundw
        case rel => exact ⟨k + 1, s1.put x o, by omega, by go_num, Lib.hid ⟨HB3.out, HT2.out.le, fun b' e => by injection e with e; subst e; exact ⟨HM3.out, hbb⟩, fun e => by cases e⟩, Lib.hid (by rw [HQ.out, HX.out, D.It.take, if_pos HE.out]), Lib.hid (by have := s1.put_n x o; omega), HO3⟩
        case measure => simp [intOf]; omega
      · have HQ2 : Hid (s.take o l = (s1, q)) := Lib.hid (by rw [HQ.out, HX.out, D.It.take, if_neg (by rw [HE.out]; exact h0), HE.out])
        have hq0 : ((q : Int) != 0) = true := by simp; omega
        go_wp2_with fail
        try rw [hW1]
        clear hW1
        go_wp2_with (go_at_call 21; (with_reducible refine CM.out.mono ?_); rintro e w2 ⟨rfl, b2⟩; have HT2 := Lib.hid (HTW.out.on b2); have HO2 := Lib.hid (HOW.out.on b2); have c2 := HT2.out.blk.cell; have len2 := fun ty => HT2.out.len ty; clear b2)
        refine bodyPost_ret (results_tmp2 rfl _ _ _) rfl ?_
        rw [HQ2.out]
        exact ⟨rfl, some b, HT2.out, HO2.out, .inl rfl⟩
    · have e : l.drop k = [] := List.drop_of_length_le (by rw [HR.out.len]; omega)
      have HQ2 : Hid (s.take o l = (s1, 0)) := Lib.hid (by rw [HQ.out, e]; rfl)
      have c1 := HT.out.blk.cell
      have len1 := fun ty => HT.out.len ty
      have hn1 := HN.out
      have i1 : (n : Int) ≤ (k : Int) := by omega
      clear e
      go_wp2
      refine bodyPost_ret (results_tmp2 rfl _ _ _) rfl ?_
      rw [HQ2.out]
      exact ⟨rfl, some b, HT.out, HO.out, .inl rfl⟩
set_option maxHeartbeats 2000000 in
theorem take_none {base p : Nat} {w : World} (hs : TabI base w p none D.It.zero) {o : Int} (o1 : 1 ≤ o) (o2 : o ≤ 9223372036854775807) {A : Option Addr} {n c : Nat} {l : List D.Ky} (hl : Shp.Row kS w A n l) (hA : ∀ ad, A = some ad → ¬ Sf p none ad.block) (hn : n ≤ 1000) (hsn : D.It.zero.n ≤ 10000) :
    Calls Tryz.prog 9 #[.pointer (some ⟨p, 0, none⟩), .int .i64 o, .slice A n c] w (Took base p none D.It.zero (D.It.zero.take o l) w) := by
  have he : ∀ W : World, (binOp .eql 31 (.map none) (.map none)).run Tryz.prog W = .ok (.bool true) W := fun _ => rfl
  have hmm := @run_makeMap Tryz.prog
  have c0 := hs.blk.cell
  have hpl := hs.blk.lt
  have hm : IAt ((w.setCell ⟨p, 0, none⟩ (.map (some w.heap.size))).alloc (.map #[] 0)) w.heap.size D.It.zero := by
    have := imap_new (w.setCell ⟨p, 0, none⟩ (.map (some w.heap.size)))
    rwa [World.size_setCell] at this
  have B0 := (hs.blk.set_ (.map (some w.heap.size))).alloc (.map #[] 0)
  have hpf := (hs.blk.alloc (.map #[] 0)).free
  have hpc := (hs.blk.alloc (.map #[] 0)).cell
  have c1 := B0.cell
  have len0 := hm.len
  have HO0 : Hid (Only (Sf p none) w ((w.setCell ⟨p, 0, none⟩ (.map (some w.heap.size))).alloc (.map #[] 0))) := Lib.hid (((Only.self (Sf p none) w).set (.inl (.inl rfl)) _).alloc _)
  have HT0 : Hid (TabI base ((w.setCell ⟨p, 0, none⟩ (.map (some w.heap.size))).alloc (.map #[] 0)) p (some w.heap.size) D.It.zero) := Lib.hid ⟨B0, hs.le, fun b' e => by injection e with e; subst e; exact ⟨hm, Nat.le_trans hs.le (Nat.le_of_lt hpl)⟩, fun e => by cases e⟩
  have HR := Lib.hid hl
  clear hs hl B0 hm
  go_enter Tryz.func9, Tryz.ntmps9
  go_wp2
  clear he
  try clear hmm hpf hpc c0 c1 len0 hlen
  go_loopw [32] (fun i wr => ∃ (k : Nat) (s1 : D.It), k ≤ n ∧ i = .int .i64 k ∧ Hid (TabI base wr p (some w.heap.size) s1) ∧ Hid (D.It.zero.take o l = s1.take o (l.drop k)) ∧ Hid (D.It.zero.n ≤ s1.n ∧ s1.n ≤ D.It.zero.n + k) ∧ Hid (Only (Sf p none) w wr)) (fun i _ => n - (intOf i).toNat)
  case atStart => exact ⟨0, D.It.zero, Nat.zero_le _, rfl, HT0, Lib.hid (by rw [List.drop_zero]), Lib.hid ⟨Nat.le_refl _, Nat.le_refl _⟩, HO0⟩
  case round =>
    obtain ⟨k, s1, hk, rfl, HT, HQ, HN, HO⟩ := hrel
    clear HT0 HO0
    by_cases hlt : k < n
    · obtain ⟨x, hx⟩ : ∃ x, l[k]? = some x := ⟨_, List.getElem?_eq_getElem (by rw [HR.out.len]; exact hlt)⟩
      obtain ⟨ad, rfl, hadl, hr⟩ := (KRow.only HR.out HO.out hA).rd hx
      have HX := Lib.hid (drop_cons' hx)
      have i1 : (k : Int) < (n : Int) := by omega
      have i0 : (0 : Int) ≤ (k : Int) := by omega
      have hr2 : kS.rd wr (ad.add (k * 25)) = some x := hr
      have bW := below_alloc_ wr (.cells (kS.v x) 30)
      have HTW := Lib.hid (HT.out.on bW)
      have HOW := Lib.hid (HO.out.on bW)
      have f1 := Shp.rd_new (S := kS) wr wr.heap.size 30 x rfl
      obtain ⟨W1, hW1⟩ : ∃ W1, wr.alloc (.cells (kS.v x) 30) = W1 := ⟨_, rfl⟩
      rw [hW1] at f1 HTW HOW bW
      have HF := Lib.hid f1
      have hlen := fun ty => HTW.out.len ty
      have CM := Lib.hid (may_any HTW.out o x)
      have hn1 := HN.out
      have heW := s1.err_le o x
      obtain ⟨q, hq⟩ : ∃ q, s1.err o x = q := ⟨_, rfl⟩
      rw [hq] at CM heW
      have HE := Lib.hid hq
      clear hq hx hr HT HO
      have hzW : wr.heap.size ≤ W1.heap.size := bW.size
      clear bW
      by_cases h0 : q = 0
      · subst h0
        have CM : Hid (Calls Tryz.prog 21 #[.pointer (some ⟨p, 0, none⟩), .int .i64 o, .agg (kS.v x)] W1 fun e w' => e = .returned (.int .i64 0) ∧ Below W1.heap.size W1 w') := CM
        go_wp2_with fail
        try rw [hW1]
        clear hW1
        go_wp2_with (go_at_call 21; (with_reducible refine CM.out.mono ?_); rintro e w2 ⟨rfl, b2⟩; have HT2 := Lib.hid (HTW.out.on b2); have HO2 := Lib.hid (HOW.out.on b2); have f2 := Shp.rd_on HF.out b2; have c2 := HT2.out.blk.cell; clear b2)
        go_still_tail 6, (by kernel_rfl)
        change wpList _ _ _ _ _ w2.drew
        have B2 := (HT2.out.blk.drew)
        obtain ⟨w3, hput, hm3, hg3⟩ := (HT2.out.at_ _ rfl).1.drew.put (by omega) x (o := o) (by omega) o2
        have hbb := (HT2.out.at_ _ rfl).2
        have hpb := (HT2.out.at_ _ rfl).1.no_cells HT2.out.blk
        have HB3 := Lib.hid (B2.grown hg3 (by intro e; injection e with e; exact hpb e))
        have HO3 := Lib.hid ((HO2.out.drewN 1).grown hg3 (fun j hj => .inr (by injection hj with hj; omega)))
        have HM3 := Lib.hid hm3
        clear B2 hm3 hg3
        go_wp2
        go_roundw
        case rel => exact ⟨k + 1, s1.put x o, by omega, by go_num, Lib.hid ⟨HB3.out, HT2.out.le, fun b' e => by injection e with e; subst e; exact ⟨HM3.out, hbb⟩, fun e => by cases e⟩, Lib.hid (by rw [HQ.out, HX.out, D.It.take, if_pos HE.out]), Lib.hid (by have := s1.put_n x o; omega), HO3⟩
        case measure => simp [intOf]; omega
      · have HQ2 : Hid (D.It.zero.take o l = (s1, q)) := Lib.hid (by rw [HQ.out, HX.out, D.It.take, if_neg (by rw [HE.out]; exact h0), HE.out])
        have hq0 : ((q : Int) != 0) = true := by simp; omega
        go_wp2_with fail
        try rw [hW1]
        clear hW1
        go_wp2_with (go_at_call 21; (with_reducible refine CM.out.mono ?_); rintro e w2 ⟨rfl, b2⟩; have HT2 := Lib.hid (HTW.out.on b2); have HO2 := Lib.hid (HOW.out.on b2); have c2 := HT2.out.blk.cell; have len2 := fun ty => HT2.out.len ty; clear b2)
        refine bodyPost_ret (results_tmp2 rfl _ _ _) rfl ?_
        rw [HQ2.out]
        exact ⟨rfl, some w.heap.size, HT2.out, HO2.out, .inr ⟨_, rfl, Nat.le_refl _⟩⟩
    · have e : l.drop k = [] := List.drop_of_length_le (by rw [HR.out.len]; omega)
      have HQ2 : Hid (D.It.zero.take o l = (s1, 0)) := Lib.hid (by rw [HQ.out, e]; rfl)
      have c1 := HT.out.blk.cell
      have len1 := fun ty => HT.out.len ty
      have hn1 := HN.out
      have i1 : (n : Int) ≤ (k : Int) := by omega
      clear e
      go_wp2
      refine bodyPost_ret (results_tmp2 rfl _ _ _) rfl ?_
      rw [HQ2.out]
      exact ⟨rfl, some w.heap.size, HT.out, HO.out, .inr ⟨_, rfl, Nat.le_refl _⟩⟩
theorem take_any {base p : Nat} {w : World} {M : Option Nat} {s : D.It} (hs : TabI base w p M s) {o : Int} (o1 : 1 ≤ o) (o2 : o ≤ 9223372036854775807) {A : Option Addr} {n c : Nat} {l : List D.Ky} (hl : Shp.Row kS w A n l) (hA : ∀ ad, A = some ad → ¬ Sf p M ad.block) (hn : n ≤ 1000) (hsn : s.n ≤ 10000) :
    Calls Tryz.prog 9 #[.pointer (some ⟨p, 0, none⟩), .int .i64 o, .slice A n c] w (Took base p M s (s.take o l) w) := by
  cases M with
  | none =>
    obtain rfl := hs.no rfl
    exact take_none hs o1 o2 hl hA hn hsn
  | some b => exact take_some hs o1 o2 hl hA hn hsn
theorem take_nil {w : World} {o : Int} {A : Option Addr} {n c : Nat} : Calls Tryz.prog 9 #[.pointer none, .int .i64 o, .slice A n c] w fun e w' => e = .returned (.tuple #[.int .i64 0, .int .i64 9]) ∧ w = w' := by
  go_enter Tryz.func9, Tryz.ntmps9
  go_wp2
  exact bodyPost_ret (results_tmp2 rfl _ _ _) rfl ⟨rfl, rfl⟩
end Go.Proofs.YtgobbdfgjgjigaaGreatDoor
