/-
  The law's To and raw: a tag's ten bytes, one by one.
-/
import Derived.Test.YtgbnaammphilhaaDoorRby
set_option linter.unusedVariables false
set_option linter.unusedSimpArgs false
namespace Go.Proofs.YtgbnaammphilhaaDoor
open Go.RowKit
attribute [local go_sem ↓] Go.wp_at_zero Go.wp_at_succ ld_a ld_n st_a st_n eq_a eq_n ne_a ne_n bsl_n lv_a lv_n lp_3 lp_4
attribute [local go_sem] run_ld_a run_ld_n run_sw_a run_sw_n run_eq_a run_eq_n run_ne_a run_ne_n run_bsl1_n run_lv_a run_lv_n st_z ne_z rd_new rd_old rd_drew rd_drewN rd_set tn_new tn_old tn_drew tn_drewN setRow_alloc run_lp_3 run_lp_4

theorem tg_at (x : D.Tg) {k : Nat} (h : k < 10) : ∃ b, x.l[k]? = some b := ⟨x.l[k]'(by rw [x.len]; exact h), List.getElem?_eq_getElem _⟩
theorem blk_at {w : World} {g : Nat} {t : TypeId} {x : D.Tg} {j b : Nat} (h : Blk w g t (nc x)) (hb : x.l[j]? = some b) : w.cell? ⟨g, j, none⟩ = some (.int .u8 b) := by
  rw [h.c j]
  simp [nc, bys, hb]
/-- One byte more. -/
theorem put_one {w : World} {g : Nat} {t : TypeId} {x : D.Tg} {k b : Nat} (h : Blk w g t (pk x.l k 10)) (hb : x.l[k]? = some b) (hk : k < 10) :
    (∃ v, w.cell? ⟨g, k, none⟩ = some v) ∧ w.frozen? ⟨g, k, none⟩ = false ∧ Blk (w.setCell ⟨g, k, none⟩ (.int .u8 b)) g t (pk x.l (k + 1) 10) := by
  refine ⟨?_, h.f k, ?_⟩
  · rw [h.c]
    exact ⟨_, Array.getElem?_eq_getElem (by rw [pk_size]; omega)⟩
  · have := h.put k (.int .u8 b)
    rwa [pk_next hb hk] at this
theorem lv_of_n {w : World} {a : Addr} {x : D.Tg} (h : rd w a = some x) : (loadVar 29 a).run Tryd.prog w = .ok (.agg (nc x)) w := (run_lv_n w a).trans (by rw [h]; rfl)
theorem ten_first (x : D.Tg) : pk x.l 0 10 = z10 := rfl
set_option maxRecDepth 100000 in
set_option maxHeartbeats 2000000 in
theorem to_any (a b c : ByteArray) (w : World) (ha : a.size ≤ 100) (hb : b.size ≤ 100) (hc : c.size ≤ 100) :
    Calls Tryd.prog 10 #[.agg #[.string a, .string b, .string c]] w fun e w' => e = .returned (.agg (nc (D.tb ⟨D.ns a, D.ns b, D.ns c⟩))) ∧ Below w.heap.size w w' := by
  have cA := Lib.hid (fun W => ref_bytes a b c W ha hb hc)
  obtain ⟨x, hx⟩ : ∃ x, D.tb ⟨D.ns a, D.ns b, D.ns c⟩ = x := ⟨_, rfl⟩
  rw [hx] at cA ⊢
  clear hx ha hb hc
  go_enter Tryd.func10, Tryd.ntmps10
  go_wp2_with (go_at_call 23; (with_reducible refine (cA.out _).mono ?_); rintro e w1 ⟨rfl, hb1⟩)
  have hz : w.heap.size + 2 ≤ w1.heap.size := by have := hb1.size; simp at this; omega
  have T1 : tn w1 (w.heap.size + 1) = true := by
    have := tn_of (Blk.new (w.alloc (.cells #[.string a, .string b, .string c] 23)) 29 z10) rfl
    rw [World.size_alloc] at this
    exact tn_on this hb1
  have b1 : Below w.heap.size w w1 := (((Below.refl _ _).alloc (Nat.le_refl _) _).alloc (by simp) _).trans (hb1.mono (by simp; omega))
  go_loopw [5] (fun i wr => ∃ k : Nat, k ≤ 10 ∧ i = .int .i64 k ∧ Blk wr w1.heap.size 39 (nc x) ∧ Blk wr (w1.heap.size + 1) 29 (pk x.l k 10) ∧ tn wr (w.heap.size + 1) = true ∧ Below w.heap.size w wr) (fun i _ => 10 - (intOf i).toNat)
  case atStart =>
    refine ⟨0, Nat.zero_le _, rfl, (Blk.new _ _ _).alloc _, ?_, ?_, (b1.alloc (by omega) _).alloc (by simp; omega) _⟩
    · have := Blk.new (w1.alloc (.cells (nc x) 39)) 29 z10
      rw [World.size_alloc] at this
      exact this
    · rw [tn_old _ _ _ (by simp; omega), tn_old _ _ _ (by omega)]; exact T1
  case round =>
    clear T1 b1
    obtain ⟨k, hk, rfl, BS, BD, t5, b5⟩ := hrel
    rcases (show k < 3 ∨ (3 ≤ k ∧ k < 7) ∨ (7 ≤ k ∧ k < 10) ∨ k = 10 by omega) with h | ⟨h1, h2⟩ | ⟨h1, h2⟩ | h
    · obtain ⟨b', hb⟩ := tg_at x (k := k) (by omega)
      have cx := blk_at BS hb
      obtain ⟨⟨v0, hc⟩, hf, hbn⟩ := put_one BD hb (by omega)
      have hsrc := BS.far (p := ⟨w1.heap.size + 1, k, none⟩) (by show w1.heap.size ≠ w1.heap.size + 1; omega) (.int .u8 b')
      have hne : tn (wr.setCell ⟨w1.heap.size + 1, k, none⟩ (.int .u8 b')) (w.heap.size + 1) = true := (tn_to (Below.heap_setCell _ _ _ _ (by show w.heap.size + 1 ≠ w1.heap.size + 1; omega))).trans t5
      have i5 : (k : Int) < 3 := by omega
      have i8 : (k : Int) < 10 := by omega
      clear hb BS BD t5
      go_wp2
      go_roundw
      case rel => exact ⟨k + 1, by omega, by go_num, hsrc, hbn, hne, b5.setCell (by show w.heap.size ≤ w1.heap.size + 1; omega) _⟩
      case measure => simp [intOf]; omega
    · obtain ⟨j, rfl⟩ : ∃ j, k = j + 3 := ⟨k - 3, by omega⟩
      obtain ⟨b', hb⟩ := tg_at x (k := j + 3) (by omega)
      have cx := blk_at BS hb
      obtain ⟨⟨v0, hc⟩, hf, hbn⟩ := put_one BD hb (by omega)
      have hsrc := BS.far (p := ⟨w1.heap.size + 1, j + 3, none⟩) (by show w1.heap.size ≠ w1.heap.size + 1; omega) (.int .u8 b')
      have hne : tn (wr.setCell ⟨w1.heap.size + 1, j + 3, none⟩ (.int .u8 b')) (w.heap.size + 1) = true := (tn_to (Below.heap_setCell _ _ _ _ (by show w.heap.size + 1 ≠ w1.heap.size + 1; omega))).trans t5
      rw [Nat.add_comm j 3] at hc hf hsrc hne
      have hbn' : Blk (wr.setCell ⟨w1.heap.size + 1, 3 + j, none⟩ (.int .u8 b')) (w1.heap.size + 1) 29 (pk x.l (j + 3 + 1) 10) := by rw [Nat.add_comm 3 j]; exact hbn
      clear hbn
      have i0 : ((j : Int) + 3) - 3 = (j : Int) := by omega
      have i3 : IntKind.i64.wrap (((j : Int) + 3) - 3) = (j : Int) := by rw [i0]; exact IntWalk.i64_in _ (by omega)
      have i5 : ¬ ((j : Int) + 3 < 3) := by omega
      have i6 : (j : Int) + 3 < 7 := by omega
      have i7 : (j : Int) < 4 := by omega
      have i8 : (j : Int) + 3 < 10 := by omega
      clear hb BS BD t5
      go_wp2
      go_roundw
      case rel => exact ⟨j + 3 + 1, by omega, by go_num, hsrc, hbn', hne, b5.setCell (by show w.heap.size ≤ w1.heap.size + 1; omega) _⟩
      case measure => simp [intOf]; omega
    · obtain ⟨j, rfl⟩ : ∃ j, k = j + 7 := ⟨k - 7, by omega⟩
      obtain ⟨b', hb⟩ := tg_at x (k := j + 7) (by omega)
      have cx := blk_at BS hb
      obtain ⟨⟨v0, hc⟩, hf, hbn⟩ := put_one BD hb (by omega)
      have hsrc := BS.far (p := ⟨w1.heap.size + 1, j + 7, none⟩) (by show w1.heap.size ≠ w1.heap.size + 1; omega) (.int .u8 b')
      have hne : tn (wr.setCell ⟨w1.heap.size + 1, j + 7, none⟩ (.int .u8 b')) (w.heap.size + 1) = true := (tn_to (Below.heap_setCell _ _ _ _ (by show w.heap.size + 1 ≠ w1.heap.size + 1; omega))).trans t5
      rw [Nat.add_comm j 7] at hc hf hsrc hne
      have hbn' : Blk (wr.setCell ⟨w1.heap.size + 1, 7 + j, none⟩ (.int .u8 b')) (w1.heap.size + 1) 29 (pk x.l (j + 7 + 1) 10) := by rw [Nat.add_comm 7 j]; exact hbn
      clear hbn
      have i0 : ((j : Int) + 7) - 7 = (j : Int) := by omega
      have i3 : IntKind.i64.wrap (((j : Int) + 7) - 7) = (j : Int) := by rw [i0]; exact IntWalk.i64_in _ (by omega)
      have i5 : ¬ ((j : Int) + 7 < 3) := by omega
      have i6 : ¬ ((j : Int) + 7 < 7) := by omega
      have i7 : (j : Int) < 3 := by omega
      have i8 : (j : Int) + 7 < 10 := by omega
      clear hb BS BD t5
      go_wp2
      go_roundw
      case rel => exact ⟨j + 7 + 1, by omega, by go_num, hsrc, hbn', hne, b5.setCell (by show w.heap.size ≤ w1.heap.size + 1; omega) _⟩
      case measure => simp [intOf]; omega
    · subst h
      rw [pk_nc] at BD
      have hx := rd_blk BD
      have hset := rd_set wr (w.heap.size + 1) x t5
      have b6 := below_setRow b5 (Nat.le_succ _) (nc x)
      clear BS BD
      go_wp2
      refine bodyPost_ret (v := .agg (nc x)) (by rw [results_cell1 rfl]; simp [asAddr, Result.andThen, lv_of_n hset]) rfl ⟨rfl, b6⟩
set_option maxRecDepth 100000 in
set_option maxHeartbeats 2000000 in
theorem raw_any (x : D.Tg) (w : World) :
    Calls Tryd.prog 17 #[.agg (nc x)] w fun e w' => e = .returned (.agg (nc x)) ∧ Below w.heap.size w w' := by
  go_enter Tryd.func17, Tryd.ntmps17
  go_wp2
  go_loopw [4] (fun i wr => ∃ k : Nat, k ≤ 10 ∧ i = .int .i64 k ∧ Blk wr w.heap.size 29 (nc x) ∧ Blk wr (w.heap.size + 2) 39 (pk x.l k 10) ∧ tn wr (w.heap.size + 1) = true ∧ Below w.heap.size w wr) (fun i _ => 10 - (intOf i).toNat)
  case atStart =>
    refine ⟨0, Nat.zero_le _, rfl, ((Blk.new _ _ _).alloc _).alloc _, ?_, ?_, (((Below.refl _ _).alloc (Nat.le_refl _) _).alloc (by simp) _).alloc (by simp; omega) _⟩
    · have := Blk.new ((w.alloc (.cells (nc x) 29)).alloc (.cells z10 39)) 39 z10
      rw [World.size_alloc, World.size_alloc] at this
      exact this
    · have := tn_of ((Blk.new (w.alloc (.cells (nc x) 29)) 39 z10).alloc (.cells z10 39)) rfl
      rw [World.size_alloc] at this
      exact this
  case round =>
    obtain ⟨k, hk, rfl, BS, BD, t5, b5⟩ := hrel
    rcases (show k < 3 ∨ (3 ≤ k ∧ k < 7) ∨ (7 ≤ k ∧ k < 10) ∨ k = 10 by omega) with h | ⟨h1, h2⟩ | ⟨h1, h2⟩ | h
    · obtain ⟨b', hb⟩ := tg_at x (k := k) (by omega)
      have cx := blk_at BS hb
      obtain ⟨⟨v0, hc⟩, hf, hbn⟩ := put_one BD hb (by omega)
      have hsrc := BS.far (p := ⟨w.heap.size + 2, k, none⟩) (by show w.heap.size ≠ w.heap.size + 2; omega) (.int .u8 b')
      have hne : tn (wr.setCell ⟨w.heap.size + 2, k, none⟩ (.int .u8 b')) (w.heap.size + 1) = true := (tn_to (Below.heap_setCell _ _ _ _ (by show w.heap.size + 1 ≠ w.heap.size + 2; omega))).trans t5
      have i5 : (k : Int) < 3 := by omega
      have i8 : (k : Int) < 10 := by omega
      clear hb BS BD t5
      go_wp2
      go_roundw
      case rel => exact ⟨k + 1, by omega, by go_num, hsrc, hbn, hne, b5.setCell (by show w.heap.size ≤ w.heap.size + 2; omega) _⟩
      case measure => simp [intOf]; omega
    · obtain ⟨j, rfl⟩ : ∃ j, k = j + 3 := ⟨k - 3, by omega⟩
      obtain ⟨b', hb⟩ := tg_at x (k := j + 3) (by omega)
      have cx := blk_at BS hb
      obtain ⟨⟨v0, hc⟩, hf, hbn⟩ := put_one BD hb (by omega)
      have hsrc := BS.far (p := ⟨w.heap.size + 2, j + 3, none⟩) (by show w.heap.size ≠ w.heap.size + 2; omega) (.int .u8 b')
      have hne : tn (wr.setCell ⟨w.heap.size + 2, j + 3, none⟩ (.int .u8 b')) (w.heap.size + 1) = true := (tn_to (Below.heap_setCell _ _ _ _ (by show w.heap.size + 1 ≠ w.heap.size + 2; omega))).trans t5
      rw [Nat.add_comm j 3] at cx
      have i0 : ((j : Int) + 3) - 3 = (j : Int) := by omega
      have i3 : IntKind.i64.wrap (((j : Int) + 3) - 3) = (j : Int) := by rw [i0]; exact IntWalk.i64_in _ (by omega)
      have i5 : ¬ ((j : Int) + 3 < 3) := by omega
      have i6 : (j : Int) + 3 < 7 := by omega
      have i7 : (j : Int) < 4 := by omega
      have i8 : (j : Int) + 3 < 10 := by omega
      clear hb BS BD t5
      go_wp2
      go_roundw
      case rel => exact ⟨j + 3 + 1, by omega, by go_num, hsrc, hbn, hne, b5.setCell (by show w.heap.size ≤ w.heap.size + 2; omega) _⟩
      case measure => simp [intOf]; omega
    · obtain ⟨j, rfl⟩ : ∃ j, k = j + 7 := ⟨k - 7, by omega⟩
      obtain ⟨b', hb⟩ := tg_at x (k := j + 7) (by omega)
      have cx := blk_at BS hb
      obtain ⟨⟨v0, hc⟩, hf, hbn⟩ := put_one BD hb (by omega)
      have hsrc := BS.far (p := ⟨w.heap.size + 2, j + 7, none⟩) (by show w.heap.size ≠ w.heap.size + 2; omega) (.int .u8 b')
      have hne : tn (wr.setCell ⟨w.heap.size + 2, j + 7, none⟩ (.int .u8 b')) (w.heap.size + 1) = true := (tn_to (Below.heap_setCell _ _ _ _ (by show w.heap.size + 1 ≠ w.heap.size + 2; omega))).trans t5
      rw [Nat.add_comm j 7] at cx
      have i0 : ((j : Int) + 7) - 7 = (j : Int) := by omega
      have i3 : IntKind.i64.wrap (((j : Int) + 7) - 7) = (j : Int) := by rw [i0]; exact IntWalk.i64_in _ (by omega)
      have i5 : ¬ ((j : Int) + 7 < 3) := by omega
      have i6 : ¬ ((j : Int) + 7 < 7) := by omega
      have i7 : (j : Int) < 3 := by omega
      have i8 : (j : Int) + 7 < 10 := by omega
      clear hb BS BD t5
      go_wp2
      go_roundw
      case rel => exact ⟨j + 7 + 1, by omega, by go_num, hsrc, hbn, hne, b5.setCell (by show w.heap.size ≤ w.heap.size + 2; omega) _⟩
      case measure => simp [intOf]; omega
    · subst h
      rw [pk_nc] at BD
      have hx := rd_blk BD
      have hset := rd_set wr (w.heap.size + 1) x t5
      have b6 := below_setRow b5 (Nat.le_succ _) (nc x)
      clear BS BD
      go_wp2
      refine bodyPost_ret (v := .agg (nc x)) (by rw [results_cell1 rfl]; simp [asAddr, Result.andThen, lv_of_a hset]) rfl ⟨rfl, b6⟩
end Go.Proofs.YtgbnaammphilhaaDoor
