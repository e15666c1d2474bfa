/-
  The document's Pad and Text.
-/
import Derived.Test.YtgfpdfafkimkcaaExt
set_option linter.unusedVariables false
set_option linter.unusedSimpArgs false
namespace Go.Proofs.Ytgfpdfafkimkcaa
open Go.RowKit Go.Sort
attribute [local go_sem ↓] Go.wp_at_zero Go.wp_at_succ ld_a ld_n st_a st_n eq_a eq_n ne_a ne_n bsl_a bsl_n lv_a lv_n
attribute [local go_sem] run_ld_a run_ld_n run_st_n run_eq_a run_eq_n run_ne_a run_ne_n run_bsl1_a run_bsl1_n run_bsl2 run_lv_a run_lv_n st_z ne_z rd_new rd_old rd_drew rd_drewN rd_ext

theorem pcs_last (s : ByteArray) (k : Nat) (h : k = s.size ∨ 12 ≤ k) (hk : k ≤ s.size) : pcs (D.ns s) k = nc (D.pad s) := by
  have : D.padl (D.ns s) k = D.padl (D.ns s) 12 := by
    rcases h with h | h
    · by_cases h12 : s.size ≤ 12
      · have := D.padl_all (t := D.ns s) 12 (by rw [D.ns_len]; exact h12)
        rw [D.ns_len] at this
        rw [h, this]
      · exact D.padl_12 _ _ (by omega)
    · exact D.padl_12 _ _ h
  rw [pcs, this]; rfl
theorem lv_of_a {w : World} {a : Addr} {x : D.Nm} (h : rd w a = some x) : (loadVar 22 a).run Try.prog w = .ok (.agg (nc x)) w := (run_lv_a w a).trans (by rw [h]; rfl)
theorem results_cell1 {fn : Func} {p : Tmp} {ty : TypeId} (h : fn.results = #[.cell p ty]) (tmps : Array Value) (P : Program) (w : World) :
    (results fn tmps).run P w = ((asAddr (tmps.getD p undef)).run P w).andThen fun a w₁ => (loadVar ty a).run P w₁ := by
  simp only [results, h]
  simp [Sem.run_bind, Result.andThen]
set_option maxHeartbeats 1000000 in
theorem ref_pad (s : ByteArray) (w : World) :
    Calls Try.prog 11 #[.string s] w fun e w' => e = .returned (.agg (nc (D.pad s))) ∧ Below w.heap.size w w' := by
  go_enter Try.func11, Try.ntmps11
  go_wp2
  go_loopw [4] (fun i wr => ∃ k : Nat, k ≤ s.size ∧ k ≤ 12 ∧ i = .int .i64 k ∧ Blk wr w.heap.size 22 z12 ∧ Blk wr (w.heap.size + 1) 22 (pcs (D.ns s) k) ∧ Below w.heap.size w wr) (fun i _ => s.size - (intOf i).toNat)
  case atStart =>
    refine ⟨0, Nat.zero_le _, Nat.zero_le _, rfl, ?_, ?_, ?_⟩
    · exact (Blk.new w _ z12).alloc _
    · rw [pcs_zero]
      have := Blk.new (w.alloc (.cells z12 22)) 22 z12
      simp only [World.size_alloc] at this
      exact this
    · exact ((Below.refl _ _).alloc (Nat.le_refl _) _).alloc (by simp) _
  case round =>
    obtain ⟨k, hk, hk12, rfl, B0, B1, hbel⟩ := hrel
    by_cases hlt : k < s.size ∧ k < 12
    · obtain ⟨h1, h2⟩ := hlt
      have hb := ns_at h1
      obtain ⟨b, hq⟩ : ∃ b, s[k].toNat = b := ⟨_, rfl⟩
      rw [hq] at hb
      have hbn := B1.put k (.int .u8 b)
      rw [pcs_next hb (by omega)] at hbn
      have hcs : ∃ v, wr.cell? ⟨w.heap.size + 1, k, none⟩ = some v := by
        rw [B1.c]
        exact ⟨_, Array.getElem?_eq_getElem (by rw [pcs_size]; omega)⟩
      obtain ⟨v0, hc⟩ := hcs
      have hf := B1.f k
      have hb0 := B0.far (p := ⟨w.heap.size + 1, k, none⟩) (by simp) (.int .u8 b)
      have i1 : (k : Int) < (s.size : Int) := by omega
      have i2 : (k : Int) < 12 := by omega
      clear hb B1 B0
      go_wp2
      go_roundw
      case rel => exact ⟨k + 1, by omega, by omega, by go_num, hb0, hbn, hbel.setCell (by simp) _⟩
      case measure => simp [intOf]; omega
    · rw [pcs_last s k (by omega) hk] at B1
      have hx := rd_blk B1
      obtain ⟨w9, hst, B9, hg9⟩ := st_blk (.inl rfl) B0 rfl (D.pad s)
      have h9 := rd_blk B9
      clear B0 B1 B9
      by_cases h : k < s.size
      · have j1 : (k : Int) < (s.size : Int) := by omega
        have j2 : (12 : Int) ≤ (k : Int) := by omega
        clear hlt
        go_wp2
        refine bodyPost_ret (v := .agg (nc (D.pad s))) (by rw [results_cell1 rfl]; simp [asAddr, Result.andThen, lv_of_a h9]) rfl ⟨rfl, bel_grown hbel hg9 (Nat.le_refl _)⟩
      · have j1 : (s.size : Int) ≤ (k : Int) := by omega
        clear hlt
        go_wp2
        refine bodyPost_ret (v := .agg (nc (D.pad s))) (by rw [results_cell1 rfl]; simp [asAddr, Result.andThen, lv_of_a h9]) rfl ⟨rfl, bel_grown hbel hg9 (Nat.le_refl _)⟩

theorem upto_arr (g k : Nat) (hk : k ≤ 12) : ∀ W, (Instr.sliceAt 22 (.pointer (some ⟨g, 0, none⟩)) none (some (.int .i64 (k : Int))) none).run Try.prog W = .ok (.slice (some ⟨g, 0, none⟩) k 12) W := by
  intro W
  have h1 : (k : Int) ≤ 12 := by omega
  simp [Instr.sliceAt, go_sem, h1]
set_option maxRecDepth 100000 in
set_option maxHeartbeats 1000000 in
theorem ref_text (x : D.Nm) (w : World) :
    Calls Try.prog 14 #[.agg (nc x)] w fun e w' => e = .returned (.string (ts x)) ∧ Below w.heap.size w w' := by
  have B0 := Blk.new w 22 (nc x)
  go_enter Try.func14, Try.ntmps14
  go_wp2
  go_loopw [3] (fun i wr => ∃ k : Nat, k ≤ 12 ∧ i = .int .i64 k ∧ Kept (∀ b ∈ x.l.take k, b ≠ 0) ∧ wr = w.alloc (.cells (nc x) 22)) (fun i _ => 12 - (intOf i).toNat)
  case atStart => exact ⟨0, Nat.zero_le _, rfl, ⟨by simp⟩, rfl⟩
  case round =>
    obtain ⟨k, hk, rfl, HK, rfl⟩ := hrel
    by_cases hgo : k < 12 ∧ x.l[k]? ≠ some 0
    · obtain ⟨hlt, h0⟩ := hgo
      obtain ⟨a, hx, ha⟩ := nm_at x hlt
      have cx := blk_at B0 hx
      have hne : ((a : Int) != 0) = true := by
        rw [bne_iff_ne]
        intro e
        have : a = 0 := by omega
        subst this
        exact h0 hx
      have i1 : (k : Int) < 12 := by omega
      have HN : Kept (∀ b ∈ x.l.take (k + 1), b ≠ 0) := ⟨by
        obtain ⟨h1, h2⟩ := List.getElem?_eq_some_iff.1 hx
        intro b hb
        rw [List.take_succ_eq_append_getElem h1, h2] at hb
        rcases List.mem_append.1 hb with hb | hb
        · exact HK.out b hb
        · rw [List.mem_singleton.1 hb]
          rintro rfl
          exact h0 hx⟩
      clear hx h0 B0
      go_wp2
      go_roundw
      case rel => exact ⟨k + 1, by omega, by go_num, HN, by first | rfl | trivial⟩
      case measure => simp [intOf]; omega
    · have hhd : D.hd x.l = x.l.take k := D.hd_take HK.out (by
        by_cases h12 : k < 12
        · left
          obtain ⟨a, hx, ha⟩ := nm_at x h12
          by_cases e : a = 0
          · subst e; exact hx
          · exact absurd ⟨h12, by rw [hx]; simpa using e⟩ hgo
        · right; rw [x.len]; omega)
      obtain ⟨m, hm⟩ : ∃ m, m = k := ⟨_, rfl⟩
      have hR : Row (w.alloc (.cells (nc x) 22)) (some ⟨w.heap.size, 0, none⟩) k (bys (D.hd x.l)) := by
        rw [hhd, ← bys_take]
        exact (row_name B0).take hk
      have hup := upto_arr w.heap.size k hk
      have hstr := str_run _ _ k 12 _ hR (fun b hb => x.lt b (D.hd_mem hb))
      have HI := Lib.hid (fun w => ref_is (D.sb (D.hd x.l)) w)
      rw [ns_hd x] at HI
      have hrd := rd_new w _ 22 x rfl
      have HP := Lib.hid (fun w => ref_pad (D.sb (D.hd x.l)) w)
      rw [hdp_pad x] at HP
      have HR : Kept (D.right x = (D.isB (D.hd x.l) && sm (D.hdp x) x)) := ⟨rfl⟩
      have HT : Kept (ts x = if D.right x then D.sb (D.hd x.l) else ByteArray.empty) := ⟨by
        unfold ts D.txt
        split <;> rfl⟩
      obtain ⟨s, hs⟩ : ∃ s, D.sb (D.hd x.l) = s := ⟨_, rfl⟩
      rw [hs] at hstr HI HP HT
      clear hs hR hhd hm HK
      have hz : (k < 12 ∧ ∃ a, x.l[k]? = some a ∧ a = 0) ∨ 12 ≤ k := by
        by_cases hz : k < 12
        · left
          obtain ⟨a, hx, ha⟩ := nm_at x hz
          refine ⟨hz, a, hx, ?_⟩
          by_cases e : a = 0
          · exact e
          · exact absurd ⟨hz, by rw [hx]; simpa using e⟩ hgo
        · exact .inr (by omega)
      have hz' : (((k : Int) < 12) ∧ (w.alloc (.cells (nc x) 22)).cell? ⟨w.heap.size, k, none⟩ = some (.int .u8 0)) ∨ (12 : Int) ≤ (k : Int) := by
        rcases hz with ⟨h1, a, hx, rfl⟩ | h
        · exact .inl ⟨by omega, blk_at B0 hx⟩
        · exact .inr (by omega)
      clear hz hgo B0
      cases h : D.isB (D.hd x.l)
      · rw [h] at HI
        have HT' : Kept (ByteArray.empty = ts x) := ⟨by rw [HT.out, HR.out, h]; rfl⟩
        have HQ := Lib.hid (fun n => quietly (n := n) (w := w.alloc (.cells (nc x) 22)) (HI.out _))
        clear HT HR HP HI h
        rcases hz' with ⟨i1, cx⟩ | i1
        all_goals
          go_wp2_with fail
          go_quiet ((go_at_call 10; exact HQ.out _))
          go_wp2
          go_ret
          exact ⟨by rw [← HT'.out]; rfl, below_drewN (below_alloc_ _ _) _⟩
      · rw [h] at HI
        cases h2 : sm (D.hdp x) x
        · have HT' : Kept (ByteArray.empty = ts x) := ⟨by rw [HT.out, HR.out, h, h2]; rfl⟩
          clear HT HR h
          rcases hz' with ⟨i1, cx⟩ | i1
          all_goals
            go_wp2_with fail
            refine wp_region_ext (by kernel_rfl) (by kernel_rfl) ?_
            repeat (quiet_step ((first
              | (go_at_call 10; exact calls_same (HI.out _))
              | (go_at_call 11; exact calls_ext (HP.out _)))))
            refine wpQuiet_nil ?_
            intro w5 hw5
            have b5 := ext_to hw5
            clear hw5
            go_wp2
            go_ret
            exact ⟨by rw [← HT'.out]; rfl, (below_alloc_ _ _).trans (b5.mono (by simp))⟩
        · have HT' : Kept (s = ts x) := ⟨by rw [HT.out, HR.out, h, h2]; rfl⟩
          clear HT HR h
          rcases hz' with ⟨i1, cx⟩ | i1
          all_goals
            go_wp2_with fail
            refine wp_region_ext (by kernel_rfl) (by kernel_rfl) ?_
            repeat (quiet_step ((first
              | (go_at_call 10; exact calls_same (HI.out _))
              | (go_at_call 11; exact calls_ext (HP.out _)))))
            refine wpQuiet_nil ?_
            intro w5 hw5
            have b5 := ext_to hw5
            clear hw5
            go_wp2
            go_ret
            exact ⟨by rw [← HT'.out]; rfl, (below_alloc_ _ _).trans (b5.mono (by simp))⟩
end Go.Proofs.Ytgfpdfafkimkcaa
