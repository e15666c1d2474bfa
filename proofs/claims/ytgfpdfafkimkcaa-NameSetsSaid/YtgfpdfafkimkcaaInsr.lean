/-
  The reference's Insert.
-/
import Derived.Test.YtgfpdfafkimkcaaIns
set_option linter.unusedVariables false
set_option linter.unusedSimpArgs false
namespace Go.Proofs.Ytgfpdfafkimkcaa
open Go.RowKit Go.Sort
attribute [local go_sem ↓] Go.wp_at_zero Go.wp_at_succ ld_a ld_n st_a st_n eq_a eq_n ne_a ne_n bsl_a bsl_n lv_a lv_n
attribute [local go_sem] run_ld_a run_ld_n run_st_n run_eq_a run_eq_n run_ne_a run_ne_n run_bsl1_a run_bsl1_n run_bsl2 run_lv_a run_lv_n st_z ne_z rd_new rd_old rd_drew rd_drewN rd_ext

set_option maxRecDepth 100000 in
set_option maxHeartbeats 1000000 in
theorem insert_any (A : Option Addr) (n c : Nat) (l : List D.Nm) (x : D.Nm) (w : World) (hl : NRow w A n l) (hc : n ≤ c) (hn : n ≤ 1000) :
    Calls Try.prog 18 #[.slice A n c, .agg (nc x)] w (MadeA (D.ins l x) w) := by
  go_enter Try.func18, Try.ntmps18
  go_wp2
  go_loopw [5, 6] (fun s i wr => ∃ (k : Nat) (B : Option Addr) (d : Nat), k ≤ n ∧ i = .int .i64 k ∧ s = .slice B k d ∧ NOwn w.heap.size 22 wr B k d (l.take k) ∧ rd wr ⟨w.heap.size, 0, none⟩ = some x ∧ w.heap.size < wr.heap.size ∧ (∀ g, (Value.slice B k d).ownBlock = some g → w.heap.size < g) ∧ Hid (∀ j y, j < k → l[j]? = some y → D.less x y = false) ∧ Below w.heap.size w wr) (fun _ i _ => n - (intOf i).toNat)
  case atStart => exact ⟨0, none, 0, Nat.zero_le _, rfl, rfl, NOwn.nil (by simp), rd_new _ _ _ _ rfl, by simp, (by intro g h; cases h), (fun j y h => absurd h (by omega)), below_alloc_ _ _⟩
  case round =>
    obtain ⟨k, B, d, hk, rfl, rfl, ho, hx0, hsz, hg, HL, hb⟩ := hrel
    by_cases hlt : k < n
    · obtain ⟨y, hy⟩ := nat_lt (l := l) (i := k) (by rw [hl.len]; exact hlt)
      have hl2 := hl.on hb
      obtain ⟨ad, hA, hadl, hr⟩ := hl2.rd hy
      have cR := Lib.hid (ref_less x y)
      have i1 : (k : Int) < (n : Int) := by omega
      have i0 : (0 : Int) ≤ (k : Int) := by omega
      cases hs : D.less x y
      · rw [hs] at cR
        subst hA
        have hadl2 : (ad.add (k * 12)).block < wr.heap.size := by rw [block_of_add]; exact hadl
        have HL2 : Hid (∀ j y, j < k + 1 → l[j]? = some y → D.less x y = false) := fun j z hj hz => by
          by_cases e : j = k
          · subst e
            rw [hy] at hz
            injection hz with hz
            subst hz
            exact hs
          · exact HL.out j z (by omega) hz
        have HT : Kept (l.take (k + 1) = l.take k ++ [y]) := ⟨by
          obtain ⟨h1, h2⟩ := List.getElem?_eq_some_iff.1 hy
          rw [List.take_succ_eq_append_getElem h1, h2]⟩
        clear hs hy HL hl2
        go_wp2_with fail
        refine wp_region_ext (by kernel_rfl) (by kernel_rfl) ?_
        repeat (go_big_quiet_step ((first | (go_at_call 17; with_reducible exact calls_ext (cR.out _)))))
        refine wpQuiet_nil ?_
        intro w5 hw5
        have b5 := ext_to hw5
        clear hw5
        have ho5 := ho.on b5
        have hr5 := rd_on hr b5
        go_wp2_with (at_builtin; refine napp _ ty_a rfl (.tmp 20) (.tmp 25) rfl rfl (ho5.alloc _) rfl (nrow_one w5 _ _ y rfl) (by omega) ?_; intro A1 c1 w3 ho3 hg3 hat3)
        have bb := (hb.trans (b5.mono hb.size))
        have hx5 := rd_on (rd_on hx0 b5) (below_alloc_ _ (.cells (nc y) 22))
        have s5 : w.heap.size < w5.heap.size := Nat.lt_of_lt_of_le hsz b5.size
        go_roundw
        case rel =>
          refine ⟨k + 1, A1, c1, by omega, by go_num, rfl, by rw [HT.out]; exact ho3, ?_, ?_, ?_, HL2, ?_⟩
          · exact (rd_to (hg3.block _ (by simp; omega) (fun e => Nat.lt_irrefl _ (hg _ e.symm)))).trans hx5
          · exact Nat.lt_of_lt_of_le s5 (Nat.le_trans (by simp) hg3.size)
          · intro g h
            rcases hat3 with h1 | h1
            · exact hg g (by rw [← h1]; exact h)
            · rw [h1] at h
              injection h with h
              subst h
              simp
              omega
          · exact (bb.alloc bb.size _).trans (grown_new (ho5.alloc _) (Nat.le_refl _) hg3)
        case measure => simp [intOf]; omega
      · rw [hs] at cR
        have HI : Kept (D.ins l x = l.take k ++ [x] ++ l.drop k) := ⟨ins_at HL.out (.inr ⟨y, hy, hs⟩)⟩
        obtain ⟨A2, hcut, hrow⟩ := from_n 38 (.inl rfl) A n c k _ rfl hk
        have hrow2 := Lib.hid (fun W h => hrow W l h hc)
        subst hA
        have hadl2 : (ad.add (k * 12)).block < wr.heap.size := by rw [block_of_add]; exact hadl
        clear hs hy HL hrow
        go_wp2_with fail
        refine wp_region_ext (by kernel_rfl) (by kernel_rfl) ?_
        repeat (go_big_quiet_step ((first | (go_at_call 17; with_reducible exact calls_ext (cR.out _)))))
        refine wpQuiet_nil ?_
        intro w5 hw5
        have b5 := ext_to hw5
        clear hw5
        have ho5 := ho.on b5
        have hx5 := rd_on hx0 b5
        have bb := (hb.trans (b5.mono hb.size))
        have hl5 := hl.on bb
        have h12 := hl.len
        go_wp2_with (first
          | (at_builtin; refine napp _ ty_a rfl (.tmp 29) (.tmp 31) rfl rfl (ho5.alloc _) rfl (nrow_one w5 _ _ x rfl) (by omega) ?_; intro A1 c1 w3 ho3 hg3 hat3; have b3 := (bb.alloc bb.size (.cells (nc x) 22)).trans (grown_new (ho5.alloc _) (Nat.le_refl _) hg3))
          | (at_builtin; refine napp _ ty_a rfl (.tmp 33) (.tmp 36) rfl rfl ho3 rfl (hrow2.out w3 (hl.on b3)) (by omega) ?_; intro A4 c4 w4 ho4 hg4 hat4))
        go_ret
        exact ⟨A4, _, c4, rfl, by rw [HI.out]; exact ho4, b3.trans (grown_new ho3 (Nat.le_refl _) hg4)⟩
    · have hkn : k = n := by omega
      subst hkn
      have hlen := hl.len
      have i1 : ¬ ((k : Int) < (k : Int)) := by omega
      have HI : Kept (D.ins l x = l.take k ++ [x] ++ l.drop k) := ⟨ins_at HL.out (.inl (by omega))⟩
      obtain ⟨A2, hcut, hrow⟩ := from_n 38 (.inl rfl) A k c k _ rfl (Nat.le_refl _)
      simp only [Nat.sub_self] at hcut hrow
      have hrow2 := Lib.hid (fun W h => hrow W l h hc)
      clear HL hrow
      go_wp2_with fail
      refine wp_region_ext (by kernel_rfl) (by kernel_rfl) ?_
      repeat (go_big_quiet_step (fail))
      refine wpQuiet_nil ?_
      intro w5 hw5
      have b5 := ext_to hw5
      clear hw5
      have ho5 := ho.on b5
      have hx5 := rd_on hx0 b5
      have bb := (hb.trans (b5.mono hb.size))
      go_wp2_with (first
        | (at_builtin; refine napp _ ty_a rfl (.tmp 29) (.tmp 31) rfl rfl (ho5.alloc _) rfl (nrow_one w5 _ _ x rfl) (by omega) ?_; intro A1 c1 w3 ho3 hg3 hat3; have b3 := (bb.alloc bb.size (.cells (nc x) 22)).trans (grown_new (ho5.alloc _) (Nat.le_refl _) hg3))
        | (at_builtin; refine napp _ ty_a rfl (.tmp 33) (.tmp 36) rfl rfl ho3 rfl (hrow2.out w3 (hl.on b3)) (by omega) ?_; intro A4 c4 w4 ho4 hg4 hat4))
      go_ret
      exact ⟨A4, _, c4, rfl, by rw [HI.out]; exact ho4, b3.trans (grown_new ho3 (Nat.le_refl _) hg4)⟩
end Go.Proofs.Ytgfpdfafkimkcaa
