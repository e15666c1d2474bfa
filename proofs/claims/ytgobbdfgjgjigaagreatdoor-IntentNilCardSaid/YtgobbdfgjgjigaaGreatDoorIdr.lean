/-
  Drop, Owner, Len of a table of keys' owners.
-/
import Derived.Test.YtgobbdfgjgjigaaGreatDoorItak
set_option linter.unusedVariables false
set_option linter.unusedSimpArgs false
set_option maxRecDepth 100000
namespace Go.Proofs.YtgobbdfgjgjigaaGreatDoor
open Go.RowKit
attribute [local go_sem ↓] Go.wp_at_zero Go.wp_at_succ ld_k lv_k st_k eq_k ne_k bd_k Nm.ld_a Nm.ld_n Nm.st_a Nm.st_n Nm.eq_a Nm.eq_n Nm.ne_a Nm.ne_n Nm.lv_a Nm.lv_n ld_a ld_n st_a st_n eq_a eq_n ne_a ne_n lv_a lv_n
attribute [local go_sem] run_ldk run_lvk run_stk run_eqk run_nek run_bdk_z Nm.run_ld_a Nm.run_ld_n Nm.run_st_n Nm.run_eq_a Nm.run_eq_n Nm.run_ne_a Nm.run_ne_n Nm.run_lv_a Nm.run_lv_n Nm.rd_new Nm.rd_old Nm.rd_drew Nm.rd_drewN run_ld_a run_ld_n run_sw_a run_sw_n run_eq_a run_eq_n run_ne_a run_ne_n run_lv_a run_lv_n st_z ne_z eq_z rd_new rd_old rd_drew rd_drewN Shp.rd_new Shp.rd_old Shp.rd_drew Shp.rd_drewN Shp.rd_set Shp.tn_new Shp.tn_old Shp.tn_drew Shp.tn_drewN setRow_alloc run_stn3 run_stt15 bdk1 bdk2 bdk3 bdk4
theorem owner_any {base p : Nat} {w : World} {M : Option Nat} {s : D.It} (h : TabI base w p M s) (x : D.Ky) :
    Calls Tryz.prog 10 #[.pointer (some ⟨p, 0, none⟩), .agg (kS.v x)] w fun e w' => e = .returned (.tuple #[.int .i64 ((s.f x).getD 0), .bool (s.f x).isSome]) ∧ Below w.heap.size w w' :=
  owner_of x _ _ (fun W hW => all_any (h.on hW)) fun W hW => (h.on hW).look x
theorem owner_nil (w : World) (x : D.Ky) :
    Calls Tryz.prog 10 #[.pointer none, .agg (kS.v x)] w fun e w' => e = .returned (.tuple #[.int .i64 0, .bool false]) ∧ Below w.heap.size w w' :=
  owner_of x _ _ (fun W hW => all_none W) fun W hW => Maps.look_nil (P := Tryz.prog) (w := W) true law_k Tryz.underlying31 (zero_int W) (kkl_is x)
set_option maxHeartbeats 2000000 in
theorem drop_any {base p : Nat} {w : World} {M : Option Nat} {s : D.It} (hs : TabI base w p M s) (o : Int) {A : Option Addr} {n c : Nat} {l : List D.Ky} (hl : Shp.Row kS w A n l) (hA : ∀ ad, A = some ad → ¬ Sf p M ad.block) (hn : n ≤ 1000) :
    Calls Tryz.prog 8 #[.pointer (some ⟨p, 0, none⟩), .int .i64 o, .slice A n c] w fun e w' => e = .returned (.int .i64 ((s.drop o l).2 : Nat)) ∧ TabI base w' p M (s.drop o l).1 ∧ Only (Sf p M) w w' := by
  have HT0 := Lib.hid hs
  have HO0 : Hid (Only (Sf p M) w w) := Lib.hid (Only.self _ _)
  have HR := Lib.hid hl
  clear hs hl
  go_enter Tryz.func8, Tryz.ntmps8
  go_wp2
  go_loopw [7, 14] (fun m i wr => ∃ (k q : Nat) (s1 : D.It), k ≤ n ∧ q ≤ k ∧ m = .int .i64 q ∧ i = .int .i64 k ∧ Hid (TabI base wr p M s1) ∧ Hid ((s.drop o l).1 = (s1.drop o (l.drop k)).1 ∧ (s.drop o l).2 = (s1.drop o (l.drop k)).2 + q) ∧ Hid (Only (Sf p M) w wr)) (fun _ i _ => n - (intOf i).toNat)
  case atStart => exact ⟨0, 0, s, Nat.zero_le _, Nat.le_refl _, rfl, rfl, HT0, Lib.hid ⟨by rw [List.drop_zero], by rw [List.drop_zero]; rfl⟩, HO0⟩
  case round =>
    obtain ⟨k, q, s1, hk, hq, rfl, rfl, HT, HQ, HO⟩ := hrel
    clear HT0 HO0
    by_cases hlt : k < n
    · obtain ⟨x, hx⟩ : ∃ x, l[k]? = some x := ⟨_, List.getElem?_eq_getElem (by rw [HR.out.len]; exact hlt)⟩
      obtain ⟨ad, rfl, hadl, hr⟩ := (KRow.only HR.out HO.out hA).rd hx
      have HX := Lib.hid (drop_cons' hx)
      have i1 : (k : Int) < (n : Int) := by omega
      have i0 : (0 : Int) ≤ (k : Int) := by omega
      have hr2 : kS.rd wr (ad.add (k * 25)) = some x := hr
      have bW := below_alloc_ wr (.cells (kS.v x) 30)
      have HTW := Lib.hid (HT.out.on bW)
      have HOW := Lib.hid (HO.out.on bW)
      have f1 := Shp.rd_new (S := kS) wr wr.heap.size 30 x rfl
      obtain ⟨W1, hW1⟩ : ∃ W1, wr.alloc (.cells (kS.v x) 30) = W1 := ⟨_, rfl⟩
      rw [hW1] at f1 HTW HOW bW
      have HF := Lib.hid f1
      have CM := Lib.hid (owner_any HTW.out x)
      have no : s1.f x ≠ some o → ∀ v b, (s1.f x).getD 0 = v → (s1.f x).isSome = b → (b && (v == o)) = false := by
        intro hne v b h1 h2
        cases hf : s1.f x with
        | none => rw [hf] at h2; subst h2; rfl
        | some u =>
          rw [hf] at h1 h2 hne
          subst h1 h2
          simp only [Option.getD_some, Option.isSome_some, Bool.true_and, beq_eq_false_iff_ne]
          exact fun e => hne (by rw [e])
      clear hx hr HT HO
      by_cases hf : s1.f x = some o
      · have HF2 := Lib.hid hf
        rw [hf] at CM
        have CM : Hid (Calls Tryz.prog 10 #[.pointer (some ⟨p, 0, none⟩), .agg (kS.v x)] W1 fun e w' => e = .returned (.tuple #[.int .i64 o, .bool true]) ∧ Below W1.heap.size W1 w') := CM
        obtain ⟨b, rfl⟩ : ∃ b, M = some b := by
          cases M with
          | some b => exact ⟨b, rfl⟩
          | none => have := HTW.out.no rfl; rw [this] at hf; cases hf
        have hoo : (o == o) = true := by simp
        clear hf no
        go_wp2_with fail
        try rw [hW1]
        clear hW1
        go_wp2_with (go_at_call 10; (with_reducible refine CM.out.mono ?_); rintro e w2 ⟨rfl, b2⟩; have HT2 := Lib.hid (HTW.out.on b2); have HO2 := Lib.hid (HOW.out.on b2); have f2 := Shp.rd_on HF.out b2; have c2 := HT2.out.blk.cell; clear b2)
        go_still_tail 5, (by kernel_rfl)
        change wpList _ _ _ _ _ w2.drew
        have B2 := (HT2.out.blk.drew)
        obtain ⟨w3, hd, hm3, hg3⟩ := (HT2.out.at_ _ rfl).1.drew.drop (x := x) (by rw [HF2.out]; rfl) 0
        have hbb := (HT2.out.at_ _ rfl).2
        have hpb := (HT2.out.at_ _ rfl).1.no_cells HT2.out.blk
        have HB3 := Lib.hid (B2.grown hg3 (by intro e; injection e with e; exact hpb e))
        have HO3 := Lib.hid ((HO2.out.drewN 1).grown hg3 (fun j hj => .inl (.inr hj)))
        have HM3 := Lib.hid hm3
        clear B2 hm3 hg3
        go_wp2
        go_roundw
        case rel => exact ⟨k + 1, q + 1, s1.del x, by omega, by omega, by go_num, by go_num, Lib.hid ⟨HB3.out, HT2.out.le, fun b' e => by injection e with e; subst e; exact ⟨HM3.out, hbb⟩, fun e => by cases e⟩, Lib.hid (by rw [HQ.out.1, HQ.out.2, HX.out, D.It.drop, if_pos HF2.out]; exact ⟨rfl, by simp only; omega⟩), HO3⟩
        case measure => simp [intOf]; omega
      · have HQ2 : Hid ((s.drop o l).1 = (s1.drop o (l.drop (k + 1))).1 ∧ (s.drop o l).2 = (s1.drop o (l.drop (k + 1))).2 + q) := Lib.hid (by rw [HQ.out.1, HQ.out.2, HX.out, D.It.drop, if_neg hf]; exact ⟨rfl, rfl⟩)
        obtain ⟨v, hv⟩ : ∃ v, (s1.f x).getD 0 = v := ⟨_, rfl⟩
        obtain ⟨b, hb⟩ : ∃ b, (s1.f x).isSome = b := ⟨_, rfl⟩
        have hno := no hf v b hv hb
        rw [hv, hb] at CM
        clear hv hb no hf HQ
        cases b with
        | false =>
          go_wp2_with fail
          try rw [hW1]
          clear hW1
          go_wp2_with (go_at_call 10; (with_reducible refine CM.out.mono ?_); rintro e w2 ⟨rfl, b2⟩; have HT2 := Lib.hid (HTW.out.on b2); have HO2 := Lib.hid (HOW.out.on b2); clear b2)
          go_roundw
          case rel => exact ⟨k + 1, q, s1, by omega, by omega, rfl, by go_num, HT2, HQ2, HO2⟩
          case measure => simp [intOf]; omega
        | true =>
          have hno : (v == o) = false := hno
          go_wp2_with fail
          try rw [hW1]
          clear hW1
          go_wp2_with (go_at_call 10; (with_reducible refine CM.out.mono ?_); rintro e w2 ⟨rfl, b2⟩; have HT2 := Lib.hid (HTW.out.on b2); have HO2 := Lib.hid (HOW.out.on b2); clear b2)
          go_roundw
          case rel => exact ⟨k + 1, q, s1, by omega, by omega, rfl, by go_num, HT2, HQ2, HO2⟩
          case measure => simp [intOf]; omega
    · have e : l.drop k = [] := List.drop_of_length_le (by rw [HR.out.len]; omega)
      have HQ2 : Hid ((s.drop o l).1 = s1 ∧ (s.drop o l).2 = q) := Lib.hid (by rw [HQ.out.1, HQ.out.2, e]; exact ⟨rfl, Nat.zero_add _⟩)
      have i1 : (n : Int) ≤ (k : Int) := by omega
      clear e
      go_wp2
      go_ret
      rw [HQ2.out.1, HQ2.out.2]
      exact ⟨rfl, HT.out, HO.out⟩
end Go.Proofs.YtgobbdfgjgjigaaGreatDoor
