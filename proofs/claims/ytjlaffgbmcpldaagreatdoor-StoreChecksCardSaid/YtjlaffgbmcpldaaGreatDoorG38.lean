/-
  
-/
import Derived.Test.YtjlaffgbmcpldaaGreatDoorG33
import Derived.Test.YtjlaffgbmcpldaaGreatDoorG34
import Derived.Test.YtjlaffgbmcpldaaGreatDoorG36
import Derived.Test.YtjlaffgbmcpldaaGreatDoorG37
import Derived.Test.YtjlaffgbmcpldaaGreatDoorG08
import Derived.Test.YtjlaffgbmcpldaaGreatDoorG35
import Derived.Deep.DrawnRows
import Derived.Laws.CopyOwn
import Derived.Laws.ResultCell
import Derived.Test.YtjlaffgbmcpldaaGreatDoorG10
import Derived.Test.YtjlaffgbmcpldaaGreatDoorG04
set_option linter.unusedVariables false
set_option linter.unusedSimpArgs false
namespace Go.Proofs.YtjlaffgbmcpldaaGreatDoor
open Go.RowKit
attribute [local go_sem ↓] Go.wp_at_zero Go.wp_at_succ ld_a ld_n st_a st_n eq_a eq_n ne_a ne_n lv_a lv_n lp_3 lp_4
attribute [local go_sem] run_ld_a run_ld_n run_sw_a run_sw_n run_eq_a run_eq_n run_ne_a run_ne_n run_lv_a run_lv_n st_z ne_z eq_z rd_new rd_old rd_drew rd_drewN rd_set tn_new tn_old tn_drew tn_drewN setRow_alloc run_lp_3 run_lp_4

theorem join_lt : ∀ L : List (List Nat), (∀ l ∈ L, ∀ b ∈ l, b < 256) → ∀ b ∈ D.join L, b < 256
 | [], _, b, hb => by cases hb
 | [x], h, b, hb => h x (by simp) b hb
 | x :: y :: r, h, b, hb => by
  rw [D.join] at hb
  rcases List.mem_append.1 hb with hb | hb
  ·exact h x (by simp) b hb
  ·rcases List.mem_cons.1 hb with rfl | hb
   ·decide
   ·exact join_lt (y :: r) (fun l hl => h l (List.mem_cons_of_mem _ hl)) b hb
theorem mem_opt {l a : List Nat} (h : l ∈ (if a = [] then [] else [a])) : l = a := by
 by_cases e : a = []
 ·rw [if_pos e] at h; cases h
 ·rw [if_neg e] at h; simpa using h
theorem spell_lt (x : D.Tg) : ∀ b ∈ D.spell x, b < 256 := by
 intro b hb
 unfold D.spell at hb
 split at hb
 ·revert b; decide
 ·refine join_lt _ (fun l hl => ?_) b hb
  have : l = D.hd0 (D.pl x) ∨ l = D.hd0 (D.ps x) ∨ l = D.hd0 (D.pr x) := by
   simp only [D.some3, D.hds, List.mem_append] at hl
   rcases hl with hl | hl | hl
   ·exact .inl (mem_opt hl)
   ·exact .inr (.inl (mem_opt hl))
   ·exact .inr (.inr (mem_opt hl))
  rcases this with rfl | rfl | rfl
  ·exact hd0_lt fun b hb => x.lt b (List.mem_of_mem_take hb)
  ·exact hd0_lt fun b hb => x.lt b (List.mem_of_mem_drop (List.mem_of_mem_take hb))
  ·exact hd0_lt fun b hb => x.lt b (List.mem_of_mem_drop hb)
theorem spell_len2 (x : D.Tg) : (D.spell x).length ≤ 20 := by
 unfold D.spell
 split
 ·decide
 ·rw [← accs_end]; exact spell_len x
theorem right_eq (x : D.Tg) : D.right x = match D.parse (D.spell x) with
  | none => false
  | some p => sm (D.tb p) x := by
 unfold D.right D.pt sm
 cases D.parse (D.spell x) with
 | none => rfl
 | some p => by_cases h : D.tb p = x <;> simp [h]
theorem parse_spell (x : D.Tg) (w : World) : Calls Tryz.prog 179 #[.string (D.sb (D.spell x))] w fun e w' => e = .returned (.tuple #[.agg (nc (D.tb ((D.parse (D.spell x)).getD D.rt))), .int .i64 (er (D.parse (D.spell x)))]) ∧ Below w.heap.size w w' := by
 have := tag_parse (D.sb (D.spell x)) w (by rw [D.sb_len]; have := spell_len2 x; omega)
 rwa [D.ns_sb (spell_lt x)] at this
set_option maxRecDepth 100000 in
set_option maxHeartbeats 1000000 in
theorem right_any (x : D.Tg) (w : World) : Calls Tryz.prog 148 #[.agg (nc x)] w fun e w' => e = .returned (.bool (D.right x)) ∧ Below w.heap.size w w' := by
 have cS := Lib.hid (fun w => spelled_any x w)
 have cP := fun w => parse_spell x w
 have hr := right_eq x
 have f0 := rd_new w _ 37 x rfl
 obtain ⟨p, hp⟩ : ∃ p, D.parse (D.spell x) = p := ⟨_, rfl⟩
 obtain ⟨l, hl⟩ : ∃ l, D.spell x = l := ⟨_, rfl⟩
 rw [hp] at cP hr
 rw [hl] at cP cS
 clear hp hl
 have HR := Lib.hid hr
 clear hr
 cases p with
 | none =>
  have cP' := Lib.hid (fun w => (show Calls Tryz.prog 179 #[.string (D.sb l)] w fun e w' => e = .returned (.tuple #[.agg (nc D.zero), .int .i64 14]) ∧ Below w.heap.size w w' from cP w))
  clear cP
  go_enter Tryz.func148, Tryz.ntmps148
  go_wp2_with (first
   | (go_at_call 180; (with_reducible refine (cS.out _).mono ?_); rintro e w1 ⟨rfl, b1⟩)
   | (go_at_call 179; (with_reducible refine (cP'.out _).mono ?_); rintro e w2 ⟨rfl, b2⟩))
  go_ret
  exact ⟨by rw [HR.out]; rfl, below_on (below_on (below_alloc_ _ _) (by simp) b1) (by have := b1.size; simp at this; omega) b2 |>.alloc (by have := b1.size; have := b2.size; simp at *; omega) _⟩
 | some q =>
  have cP' := Lib.hid (fun w => (show Calls Tryz.prog 179 #[.string (D.sb l)] w fun e w' => e = .returned (.tuple #[.agg (nc (D.tb q)), .int .i64 0]) ∧ Below w.heap.size w w' from cP w))
  clear cP
  go_enter Tryz.func148, Tryz.ntmps148
  go_wp2_with (first
   | (go_at_call 180; (with_reducible refine (cS.out _).mono ?_); rintro e w1 ⟨rfl, b1⟩; have f1 := rd_on f0 b1)
   | (go_at_call 179; (with_reducible refine (cP'.out _).mono ?_); rintro e w2 ⟨rfl, b2⟩; have f2 := rd_on f1 b2; have s2 : w.heap.size < w2.heap.size := by have := b1.size; have := b2.size; simp at *; omega))
  go_ret
  exact ⟨by rw [HR.out]; rfl, below_on (below_on (below_alloc_ _ _) (by simp) b1) (by have := b1.size; simp at this; omega) b2 |>.alloc (by have := b1.size; have := b2.size; simp at *; omega) _⟩
def D.tx (x : D.Tg) : List Nat := if D.right x then D.spell x else []
end Go.Proofs.YtjlaffgbmcpldaaGreatDoor
set_option linter.unusedVariables false
set_option linter.unusedSimpArgs false
set_option maxRecDepth 100000
namespace Go.Proofs.YtjlaffgbmcpldaaGreatDoor.Nm
open Go.RowKit
attribute [local go_sem ↓] Go.wp_at_zero Go.wp_at_succ ld_a ld_n st_a st_n eq_a eq_n ne_a ne_n lv_a lv_n
attribute [local go_sem] run_ld_a run_ld_n run_st_n run_eq_a run_eq_n run_ne_a run_ne_n run_lv_a run_lv_n st_z ne_z rd_new rd_old rd_drew rd_drewN rd_ext

theorem pcs_last (s : ByteArray) (k : Nat) (h : k = s.size ∨ 12 ≤ k) (hk : k ≤ s.size) : pcs (D.ns s) k = nc (D.pad s) := by
 have : D.padl (D.ns s) k = D.padl (D.ns s) 12 := by
  rcases h with h | h
  ·by_cases h12 : s.size ≤ 12
   ·have := D.padl_all (t := D.ns s) 12 (by rw [D.ns_len]; exact h12)
    rw [D.ns_len] at this
    rw [h, this]
   ·exact D.padl_12 _ _ (by omega)
  ·exact D.padl_12 _ _ h
 rw [pcs, this]; rfl
theorem lv_of_a {w : World} {a : Addr} {x : D.Nm} (h : rd w a = some x) : (loadVar 32 a).run Tryz.prog w = .ok (.agg (nc x)) w := (run_lv_a w a).trans (by rw [h]; rfl)
set_option maxHeartbeats 1000000 in
theorem ref_pad (s : ByteArray) (w : World) :
  Calls Tryz.prog 156 #[.string s] w fun e w' => e = .returned (.agg (nc (D.pad s))) ∧ Below w.heap.size w w' := by
 go_enter Tryz.func156, Tryz.ntmps156
 go_wp2
 go_loopw [4] (fun i wr => ∃ k : Nat, k ≤ s.size ∧ k ≤ 12 ∧ i = .int .i64 k ∧ Blk wr w.heap.size 32 z12 ∧ Blk wr (w.heap.size + 1) 32 (pcs (D.ns s) k) ∧ Below w.heap.size w wr) (fun i _ => s.size - (intOf i).toNat)
 case atStart =>
  refine ⟨0, Nat.zero_le _, Nat.zero_le _, rfl, ?_, ?_, ?_⟩
  ·exact (Blk.new w _ z12).alloc _
  ·rw [pcs_zero]
   have := Blk.new (w.alloc (.cells z12 32)) 32 z12
   simp only [World.size_alloc] at this
   exact this
  ·exact ((Below.refl _ _).alloc (Nat.le_refl _) _).alloc (by simp) _
 case round =>
  obtain ⟨k, hk, hk12, rfl, B0, B1, hbel⟩ := hrel
  by_cases hlt : k < s.size ∧ k < 12
  ·obtain ⟨h1, h2⟩ := hlt
   have hb := ns_at h1
   obtain ⟨b, hq⟩ : ∃ b, s[k].toNat = b := ⟨_, rfl⟩
   rw [hq] at hb
   have hbn := B1.put k (.int .u8 b)
   rw [pcs_next hb (by omega)] at hbn
   have hcs : ∃ v, wr.cell? ⟨w.heap.size + 1, k, none⟩ = some v := by
    rw [B1.c]
    exact ⟨_, Array.getElem?_eq_getElem (by rw [pcs_size]; omega)⟩
   obtain ⟨v0, hc⟩ := hcs
   have hf := B1.f k
   have hb0 := B0.far (p := ⟨w.heap.size + 1, k, none⟩) (by simp) (.int .u8 b)
   have i1 : (k : Int) < (s.size : Int) := by omega
   have i2 : (k : Int) < 12 := by omega
   clear hb B1 B0
   go_wp2
   go_roundw
   case rel => exact ⟨k + 1, by omega, by omega, by go_num, hb0, hbn, hbel.setCell (by simp) _⟩
   case measure => simp [intOf]; omega
  ·rw [pcs_last s k (by omega) hk] at B1
   have hx := rd_blk B1
   obtain ⟨w9, hst, B9, hg9⟩ := st_blk (.inl rfl) B0 rfl (D.pad s)
   have h9 := rd_blk B9
   clear B0 B1 B9
   by_cases h : k < s.size
   ·have j1 : (k : Int) < (s.size : Int) := by omega
    have j2 : (12 : Int) ≤ (k : Int) := by omega
    clear hlt
    go_wp2
    refine bodyPost_ret (v := .agg (nc (D.pad s))) (by rw [results_cell1 rfl]; simp [asAddr, Result.andThen, lv_of_a h9]) rfl ⟨rfl, bel_grown hbel hg9 (Nat.le_refl _)⟩
   ·have j1 : (s.size : Int) ≤ (k : Int) := by omega
    clear hlt
    go_wp2
    refine bodyPost_ret (v := .agg (nc (D.pad s))) (by rw [results_cell1 rfl]; simp [asAddr, Result.andThen, lv_of_a h9]) rfl ⟨rfl, bel_grown hbel hg9 (Nat.le_refl _)⟩

theorem upto_arr (g k : Nat) (hk : k ≤ 12) : ∀ W, (Instr.sliceAt 32 (.pointer (some ⟨g, 0, none⟩)) none (some (.int .i64 (k : Int))) none).run Tryz.prog W = .ok (.slice (some ⟨g, 0, none⟩) k 12) W := by
 intro W
 have h1 : (k : Int) ≤ 12 := by omega
 simp [Instr.sliceAt, go_sem, h1]
set_option maxRecDepth 100000 in
set_option maxHeartbeats 1000000 in
theorem ref_text (x : D.Nm) (w : World) :
  Calls Tryz.prog 120 #[.agg (nc x)] w fun e w' => e = .returned (.string (ts x)) ∧ Below w.heap.size w w' := by
 have B0 := Blk.new w 32 (nc x)
 go_enter Tryz.func120, Tryz.ntmps120
 go_wp2
 go_loopw [3] (fun i wr => ∃ k : Nat, k ≤ 12 ∧ i = .int .i64 k ∧ Kept (∀ b ∈ x.l.take k, b ≠ 0) ∧ wr = w.alloc (.cells (nc x) 32)) (fun i _ => 12 - (intOf i).toNat)
 case atStart => exact ⟨0, Nat.zero_le _, rfl, ⟨by simp⟩, rfl⟩
 case round =>
  obtain ⟨k, hk, rfl, HK, rfl⟩ := hrel
  by_cases hgo : k < 12 ∧ x.l[k]? ≠ some 0
  ·obtain ⟨hlt, h0⟩ := hgo
   obtain ⟨a, hx, ha⟩ := nm_at x hlt
   have cx := blk_at B0 hx
   have hne : ((a : Int) != 0) = true := by
    rw [bne_iff_ne]
    intro e
    have : a = 0 := by omega
    subst this
    exact h0 hx
   have i1 : (k : Int) < 12 := by omega
   have HN : Kept (∀ b ∈ x.l.take (k + 1), b ≠ 0) := ⟨by
    obtain ⟨h1, h2⟩ := List.getElem?_eq_some_iff.1 hx
    intro b hb
    rw [List.take_succ_eq_append_getElem h1, h2] at hb
    rcases List.mem_append.1 hb with hb | hb
    ·exact HK.out b hb
    ·rw [List.mem_singleton.1 hb]
     rintro rfl
     exact h0 hx⟩
   clear hx h0 B0
   go_wp2
   go_roundw
   case rel => exact ⟨k + 1, by omega, by go_num, HN, by first | rfl | trivial⟩
   case measure => simp [intOf]; omega
  ·have hhd : D.hd x.l = x.l.take k := D.hd_take HK.out (by
    by_cases h12 : k < 12
    ·left
     obtain ⟨a, hx, ha⟩ := nm_at x h12
     by_cases e : a = 0
     ·subst e; exact hx
     ·exact absurd ⟨h12, by rw [hx]; simpa using e⟩ hgo
    ·right; rw [x.len]; omega)
   obtain ⟨m, hm⟩ : ∃ m, m = k := ⟨_, rfl⟩
   have hR : Row (w.alloc (.cells (nc x) 32)) (some ⟨w.heap.size, 0, none⟩) k (bys (D.hd x.l)) := by
    rw [hhd, ← bys_take]
    exact (row_name B0).take hk
   have hup := upto_arr w.heap.size k hk
   have hstr := str_run _ _ k 12 _ hR (fun b hb => x.lt b (D.hd_mem hb))
   have HI := Lib.hid (fun w => ref_is (D.sb (D.hd x.l)) w)
   rw [ns_hd x] at HI
   have hrd := rd_new w _ 32 x rfl
   have HP := Lib.hid (fun w => ref_pad (D.sb (D.hd x.l)) w)
   rw [hdp_pad x] at HP
   have HR : Kept (D.right x = (D.isB (D.hd x.l) && sm (D.hdp x) x)) := ⟨rfl⟩
   have HT : Kept (ts x = if D.right x then D.sb (D.hd x.l) else ByteArray.empty) := ⟨by
    unfold ts D.txt
    split <;> rfl⟩
   obtain ⟨s, hs⟩ : ∃ s, D.sb (D.hd x.l) = s := ⟨_, rfl⟩
   rw [hs] at hstr HI HP HT
   clear hs hR hhd hm HK
   have hz : (k < 12 ∧ ∃ a, x.l[k]? = some a ∧ a = 0) ∨ 12 ≤ k := by
    by_cases hz : k < 12
    ·left
     obtain ⟨a, hx, ha⟩ := nm_at x hz
     refine ⟨hz, a, hx, ?_⟩
     by_cases e : a = 0
     ·exact e
     ·exact absurd ⟨hz, by rw [hx]; simpa using e⟩ hgo
    ·exact .inr (by omega)
   have hz' : (((k : Int) < 12) ∧ (w.alloc (.cells (nc x) 32)).cell? ⟨w.heap.size, k, none⟩ = some (.int .u8 0)) ∨ (12 : Int) ≤ (k : Int) := by
    rcases hz with ⟨h1, a, hx, rfl⟩ | h
    ·exact .inl ⟨by omega, blk_at B0 hx⟩
    ·exact .inr (by omega)
   clear hz hgo B0
   cases h : D.isB (D.hd x.l)
   ·rw [h] at HI
    have HT' : Kept (ByteArray.empty = ts x) := ⟨by rw [HT.out, HR.out, h]; rfl⟩
    have HQ := Lib.hid (fun n => quietly (n := n) (w := w.alloc (.cells (nc x) 32)) (HI.out _))
    clear HT HR HP HI h
    rcases hz' with ⟨i1, cx⟩ | i1
    all_goals
     go_wp2_with fail
     go_quiet ((go_at_call 155; exact HQ.out _))
     go_wp2
     go_ret
     exact ⟨by rw [← HT'.out]; rfl, below_drewN (below_alloc_ _ _) _⟩
   ·rw [h] at HI
    cases h2 : sm (D.hdp x) x
    ·have HT' : Kept (ByteArray.empty = ts x) := ⟨by rw [HT.out, HR.out, h, h2]; rfl⟩
     clear HT HR h
     rcases hz' with ⟨i1, cx⟩ | i1
     all_goals
      go_wp2_with fail
      refine wp_region_ext (by kernel_rfl) (by kernel_rfl) ?_
      repeat (quiet_step ((first
       | (go_at_call 155; exact calls_same (HI.out _))
       | (go_at_call 156; exact calls_ext (HP.out _)))))
      refine wpQuiet_nil ?_
      intro w5 hw5
      have b5 := ext_to hw5
      clear hw5
      go_wp2
      go_ret
      exact ⟨by rw [← HT'.out]; rfl, (below_alloc_ _ _).trans (b5.mono (by simp))⟩
    ·have HT' : Kept (s = ts x) := ⟨by rw [HT.out, HR.out, h, h2]; rfl⟩
     clear HT HR h
     rcases hz' with ⟨i1, cx⟩ | i1
     all_goals
      go_wp2_with fail
      refine wp_region_ext (by kernel_rfl) (by kernel_rfl) ?_
      repeat (quiet_step ((first
       | (go_at_call 155; exact calls_same (HI.out _))
       | (go_at_call 156; exact calls_ext (HP.out _)))))
      refine wpQuiet_nil ?_
      intro w5 hw5
      have b5 := ext_to hw5
      clear hw5
      go_wp2
      go_ret
      exact ⟨by rw [← HT'.out]; rfl, (below_alloc_ _ _).trans (b5.mono (by simp))⟩
end Go.Proofs.YtjlaffgbmcpldaaGreatDoor.Nm
set_option linter.unusedVariables false
set_option linter.unusedSimpArgs false
set_option maxRecDepth 100000
namespace Go.Proofs.YtjlaffgbmcpldaaGreatDoor
open Go.RowKit
attribute [local go_sem ↓] Go.wp_at_zero Go.wp_at_succ ld_k lv_k st_k eq_k ne_k bd_k ld_b lv_b st_b eq_b ne_b bd_25 ld_r lv_r st_rk eq_rk ne_rk bd_r ld_p lv_p st_px bd_p Nm.ld_a Nm.ld_n Nm.st_a Nm.st_n Nm.eq_a Nm.eq_n Nm.ne_a Nm.ne_n Nm.lv_a Nm.lv_n ld_a ld_n st_a st_n eq_a eq_n ne_a ne_n lv_a lv_n
attribute [local go_sem] run_ldk run_lvk run_stk run_eqk run_nek run_bdk_z run_ldb run_lvb run_stb run_eqb run_neb run_ldr run_lvr run_strk run_eqrk run_nerk run_bdr_z run_ldp run_lvp run_stpx Nm.run_ld_a Nm.run_ld_n Nm.run_st_n Nm.run_eq_a Nm.run_eq_n Nm.run_ne_a Nm.run_ne_n Nm.run_lv_a Nm.run_lv_n Nm.rd_new Nm.rd_old Nm.rd_drew Nm.rd_drewN run_ld_a run_ld_n run_sw_a run_sw_n run_eq_a run_eq_n run_ne_a run_ne_n run_lv_a run_lv_n st_z ne_z eq_z rd_new rd_old rd_drew rd_drewN Shp.rd_new Shp.rd_old Shp.rd_drew Shp.rd_drewN Shp.rd_set Shp.tn_new Shp.tn_old Shp.tn_drew Shp.tn_drewN setRow_alloc run_stn3 run_stt15 bdk1 bdk2 bdk3 bdk4


theorem keyof_any (k p a : Int) (n : Nm.D.Nm) (t : D.Tg) (w : World) :
  Calls Tryz.prog 116 #[.int .i64 k, .int .i64 p, .int .i64 a, .agg (Nm.nc n), .agg (nc t)] w fun e w' => e = .returned (.tuple #[.agg (kS.v (D.kof k p a n t).1), .int .i64 (D.kof k p a n t).2]) ∧ Below w.heap.size w w' := key_of_gen right_any k p a n t w
theorem D.kright_eq (x : D.Ky) : D.kright x = (decide ((D.kof x.k x.p x.a x.n x.t).2 = 0) && kS.sm (D.kof x.k x.p x.a x.n x.t).1 x) := by
 rw [kS_sm]
 unfold D.kright D.kof
 by_cases h : D.err x.k x.p x.a x.n x.t = 0
 ·rw [if_pos h]; simp [h]
 ·rw [if_neg h]; simp [h]
set_option maxHeartbeats 2000000 in
theorem keyright_any (x : D.Ky) (w : World) : Calls Tryz.prog 82 #[.agg (kS.v x)] w fun e w' => e = .returned (.bool (D.kright x)) ∧ Below w.heap.size w w' := by
 have f0 := Shp.rd_new (S := kS) w _ 39 x rfl
 obtain ⟨c0, c1, c2, c3, c4⟩ := kf0 f0
 have l0 : (x.k : Int) < 256 := by have := x.k_lt; omega
 have l1 : (x.p : Int) < 256 := by have := x.p_lt; omega
 have l2 : (x.a : Int) < 256 := by have := x.a_lt; omega
 have cO := keyof_any x.k x.p x.a x.n x.t
 have hr := D.kright_eq x
 obtain ⟨⟨y, e⟩, he⟩ : ∃ q, D.kof x.k x.p x.a x.n x.t = q := ⟨_, rfl⟩
 rw [he] at cO hr
 simp only at cO hr
 have CO := Lib.hid cO
 clear cO he
 by_cases h : e = 0
 ·have HR := Lib.hid (show D.kright x = kS.sm y x by rw [hr]; simp [h])
  clear hr
  subst h
  go_enter Tryz.func82, Tryz.ntmps82
  go_wp2_with (go_at_call 116; (with_reducible refine (CO.out _).mono ?_); rintro e w1 ⟨rfl, b1⟩; have f1 := Shp.rd_on f0 b1; have s1 : w.heap.size < w1.heap.size := by have := b1.size; simp at this; omega)
  go_ret
  exact ⟨by rw [HR.out]; rfl, (below_up (below_alloc_ _ _) (by simp) b1).alloc (by omega) _⟩
 ·have HR := Lib.hid (show D.kright x = false by rw [hr]; simp [h])
  clear hr
  go_enter Tryz.func82, Tryz.ntmps82
  go_wp2_with (go_at_call 116; (with_reducible refine (CO.out _).mono ?_); rintro e w1 ⟨rfl, b1⟩; have f1 := Shp.rd_on f0 b1; have s1 : w.heap.size < w1.heap.size := by have := b1.size; simp at this; omega)
  go_ret
  exact ⟨by rw [HR.out]; rfl, (below_up (below_alloc_ _ _) (by simp) b1).alloc (by omega) _⟩
end Go.Proofs.YtjlaffgbmcpldaaGreatDoor
