/-
  
-/
import Derived.Test.YtjlaffgbmcpldaaGreatDoorARow
import Derived.Lib.ConvBytes
import Derived.Deep.RegionHeld3
import Derived.Deep.DrawnRows
import Derived.Laws.IdiomStrings
import Derived.Lib.BytesEntry
import Derived.Lib.IndexLaws
import Derived.Laws.BytesString
import Derived.Laws.IdiomElems
import Derived.Lib.BufferRead
import Derived.Sort.Grow
import Derived.Deep.Light
set_option linter.unusedVariables false
set_option linter.unusedSimpArgs false
set_option maxRecDepth 100000
namespace Go.Proofs.YtjlaffgbmcpldaaGreatDoor.Nm
open Go.RowKit
attribute [local go_sem ↓] Go.wp_at_zero Go.wp_at_succ ld_a ld_n st_a st_n eq_a eq_n ne_a ne_n lv_a lv_n
attribute [local go_sem] run_ld_a run_ld_n run_st_n run_eq_a run_eq_n run_ne_a run_ne_n run_lv_a run_lv_n st_z ne_z rd_new rd_old rd_drew rd_drewN

theorem letter_any (c : Nat) (w : World) : Calls Tryz.prog 191 #[.int .u8 c] w fun e w' => e = .returned (.bool (D.letB c)) ∧ w = w' := by
 go_enter Tryz.func191, Tryz.ntmps191
 go_wp2
 all_goals
  go_ret
  refine ⟨bool_of ?_, rfl⟩
  unfold D.letB
  rw [Bool.eq_iff_iff]
  simp
  omega
theorem may_any (c : Nat) (w : World) : Calls Tryz.prog 192 #[.int .u8 c] w fun e w' => e = .returned (.bool (D.mayB c)) ∧ w = w' := by
 have H := Lib.hid (letter_any c)
 obtain ⟨b, hb⟩ : ∃ b, D.letB c = b := ⟨_, rfl⟩
 rw [hb] at H
 have HB := Lib.hid hb
 clear hb
 cases b
 all_goals
  go_enter Tryz.func192, Tryz.ntmps192
  go_wp2_with (go_at_call 191; (with_reducible refine (H.out _).mono ?_); rintro e w' ⟨rfl, rfl⟩)
  all_goals
   go_ret
   refine ⟨bool_of ?_, rfl⟩
   unfold D.mayB
   rw [HB.out, Bool.eq_iff_iff]
   simp
   try omega

structure Fine (t : List Nat) (k : Nat) : Prop where
 out : ∀ i b, i < k → t[i]? = some b → D.mayB b = true
theorem fine_first (t : List Nat) : Fine t 0 := ⟨fun i b h => absurd h (by omega)⟩
theorem fine_next {t : List Nat} {k b : Nat} (h : Fine t k) (hb : t[k]? = some b) (hm : D.mayB b = true) : Fine t (k + 1) := ⟨fun i c hi hc => by
 by_cases e : i = k
 ·subst e
  rw [hb] at hc
  injection hc with hc
  subst hc
  exact hm
 ·exact h.out i c (by omega) hc⟩
theorem fine_all {t : List Nat} {k : Nat} (h : Fine t k) (hk : t.length ≤ k) (h1 : 1 ≤ t.length) (h2 : t.length ≤ 12) (hl : D.letB (t.getD 0 0) = true) : D.isB t = true :=
 D.isB_iff.2 ⟨h1, h2, hl, fun c hc => by
  obtain ⟨i, hi, e⟩ := List.getElem_of_mem hc
  exact h.out i c (by omega) (by rw [List.getElem?_eq_getElem hi, e])⟩
theorem not_fine {t : List Nat} {k b : Nat} (hb : t[k]? = some b) (hm : D.mayB b = false) : D.isB t = false := by
 cases h : D.isB t
 ·rfl
 ·have := (D.isB_iff.1 h).2.2.2 b (List.mem_of_getElem? hb)
  rw [hm] at this; cases this

theorem row_of_text (w : World) (s : ByteArray) (cap : Nat) (t : TypeId) (fr : Nat × Nat) : Row (w.alloc (.cells (bytesRow s cap) t fr)) (some ⟨w.heap.size, 0, none⟩) s.size (bys (D.ns s)) :=
 ⟨by rw [bys_len, D.ns_len], fun _ => ⟨_, rfl, by simp, fun j u hu => by
  have hj : j < s.data.size := by
   have := (List.getElem?_eq_some_iff.1 hu).1
   rw [bys_len, D.ns_len] at this
   exact this
  rw [World.news_of_block (heap_alloc_new w _) j u]
  rw [Array.getElem?_toList, bytesRow_at s cap j hj]
  simp [bys, D.ns] at hu
  obtain ⟨a, ha, rfl⟩ := hu
  have : s.data[j]? = some s.data[j] := Array.getElem?_eq_getElem hj
  rw [this] at ha
  injection ha with ha
  rw [ha]⟩⟩
theorem ns_at {s : ByteArray} {k : Nat} (h : k < s.size) : (D.ns s)[k]? = some (s[k].toNat) := by
 simp [D.ns]
 exact ⟨s[k], by rw [Array.getElem?_eq_getElem (by exact h)]; rfl, rfl⟩
def pcs (t : List Nat) (k : Nat) : Array Value := (bys (D.padl t k)).toArray
theorem pcs_zero (t : List Nat) : pcs t 0 = z12 := by rw [pcs, D.padl_zero]; rfl
theorem pcs_size (t : List Nat) (k : Nat) : (pcs t k).size = 12 := by simp [pcs, bys_len, D.padl_len]
theorem pcs_next {t : List Nat} {k b : Nat} (hb : t[k]? = some b) (hk : k < 12) : (pcs t k).setIfInBounds k (.int .u8 b) = pcs t (k + 1) := by
 rw [pcs, pcs, ← D.padl_next hb hk, bys, bys, List.setIfInBounds_toArray, List.map_set]
theorem pcs_end (s : ByteArray) (h : s.size ≤ 12) : pcs (D.ns s) s.size = nc (D.pad s) := by
 have := D.padl_all (t := D.ns s) 12 (by rw [D.ns_len]; exact h)
 rw [D.ns_len] at this
 rw [pcs, nc, D.pad, D.padN]
 simp only
 rw [this]

theorem bel_grown {w0 w w' : World} {g : Nat} (h : Below w0.heap.size w0 w) (hg : w.grownBy w' (some g)) (hge : w0.heap.size ≤ g) : Below w0.heap.size w0 w' :=
 h.grown hg h.size fun k hk => by injection hk with hk; omega
set_option maxHeartbeats 1000000 in
theorem parse_yes (s : ByteArray) (w : World) (h : D.isB (D.ns s) = true) :
  Calls Tryz.prog 177 #[.string s] w fun e w' => e = .returned (.tuple #[.agg (nc (D.pad s)), .int .i64 0]) ∧ Below w.heap.size w w' := by
 obtain ⟨h1, h2, h3, h4⟩ := D.isB_iff.1 h
 rw [D.ns_len] at h1 h2
 have hl : D.letB (s[0].toNat) = true := by
  have := ns_at (s := s) (k := 0) (by omega)
  rwa [List.getD, this] at h3
 have H := Lib.hid (fun w => letter_any (s[0].toNat) w)
 rw [hl] at H
 have H4 : Kept (∀ c ∈ D.ns s, D.mayB c = true) := ⟨h4⟩
 clear h3 hl h h4
 have hcv := fun W => run_bytes_of_string (P := Tryz.prog) W 9 210 5 s Tryz.underlying9 Tryz.underlying210 Tryz.underlying5
 have c1 : ((s.size : Int) == 0) = false := by rw [beq_eq_false_iff_ne]; omega
 have c2 : decide ((12 : Int) < (s.size : Int)) = false := decide_eq_false (by omega)
 have c3 : ¬ s = ByteArray.empty := by rintro rfl; simp at h1
 go_enter Tryz.func177, Tryz.ntmps177
 go_wp2_with (go_at_call 191; (with_reducible refine (H.out _).mono ?_); rintro e w' ⟨rfl, rfl⟩)
 clear hcv c1 c2 c3
 go_loopw [25] (fun i wr => ∃ k : Nat, k ≤ s.size ∧ i = .int .i64 k ∧ Blk wr w.heap.size 33 z12 ∧ Blk wr (w.heap.size + 1) 33 (pcs (D.ns s) k) ∧ Row wr (some ⟨w.heap.size + 2, 0, none⟩) s.size (bys (D.ns s)) ∧ Below w.heap.size w wr) (fun i _ => s.size - (intOf i).toNat)
 case atStart =>
  refine ⟨0, Nat.zero_le _, rfl, ?_, ?_, ?_, ?_⟩
  ·exact (((Blk.new w _ z12).alloc _).drew).alloc _
  ·rw [pcs_zero]
   have := Blk.new (w.alloc (.cells z12 33)) 33 z12
   simp only [World.size_alloc] at this
   exact this.drew.alloc _
  ·have := row_of_text ((w.alloc (.cells z12 33)).alloc (.cells z12 33)).drew s
   simp only [World.size_drew, World.size_alloc] at this
   exact this _ _ _
  ·exact ((((Below.refl _ _).alloc (Nat.le_refl _) _).alloc (by simp) _).drew).alloc (by simp; omega) _
 case round =>
  obtain ⟨k, hk, rfl, B0, B1, R, hbel⟩ := hrel
  by_cases hlt : k < s.size
  ·obtain ⟨b, hb, hbm⟩ := at_lt (l := D.ns s) (i := k) (by rw [D.ns_len]; exact hlt)
   have hm := H4.out b hbm
   have HM := Lib.hid (fun w => may_any b w)
   rw [hm] at HM
   obtain ⟨ad, e, cx⟩ := R.cell (bys_at hb)
   injection e with e
   subst e
   have hbn := B1.put k (.int .u8 b)
   rw [pcs_next hb (by omega)] at hbn
   have hcs : ∃ v, wr.cell? ⟨w.heap.size + 1, k, none⟩ = some v := by
    rw [B1.c]
    exact ⟨_, Array.getElem?_eq_getElem (by rw [pcs_size]; omega)⟩
   obtain ⟨v0, hc⟩ := hcs
   have hf := B1.f k
   have hb0 := B0.far (p := ⟨w.heap.size + 1, k, none⟩) (by simp) (.int .u8 b)
   have hR : Row (wr.setCell ⟨w.heap.size + 1, k, none⟩ (.int .u8 b)) (some ⟨w.heap.size + 2, 0, none⟩) s.size (bys (D.ns s)) := by
    refine ⟨R.len, fun hn => ?_⟩
    obtain ⟨ad, e, hl, hc⟩ := R.tow hn
    injection e with e
    subst e
    refine ⟨_, rfl, by simpa [World.setCell] using hl, fun j u hu => ?_⟩
    rw [← hc j u hu]
    exact World.cell?_of_block (w := wr) (by rw [block_of_add]; exact Below.heap_setCell _ _ _ _ (by simp))
   have i1 : (k : Int) < (s.size : Int) := by omega
   have i2 : (k : Int) < 12 := by omega
   simp only [Addr.add_lit, Nat.zero_add] at cx
   clear hb hm B1 R B0
   go_wp2_with (go_at_call 192; (with_reducible refine (HM.out _).mono ?_); rintro e w' ⟨rfl, rfl⟩)
   go_roundw
   case rel => exact ⟨k + 1, by omega, by go_num, hb0, hbn, hR, hbel.setCell (by simp) _⟩
   case measure => simp [intOf]; omega
  ·have e : k = s.size := by omega
   subst e
   rw [pcs_end s h2] at B1
   have hx := rd_blk B1
   obtain ⟨w9, hst, B9, hg9⟩ := st_blk (.inr rfl) B0 rfl (D.pad s)
   have h9 := rd_blk B9
   clear B0 B1 R B9
   go_wp2
   refine bodyPost_ret (v := .tuple #[.agg (nc (D.pad s)), .int .i64 0]) (by rw [results_cell_tmp rfl]; simp [asAddr, Result.andThen, lv_of h9]) rfl ⟨rfl, bel_grown hbel hg9 (Nat.le_refl _)⟩

set_option maxHeartbeats 1000000 in
theorem parse_short (s : ByteArray) (w : World) (h : s.size = 0 ∨ 12 < s.size) :
  Calls Tryz.prog 177 #[.string s] w fun e w' => e = .returned (.tuple #[.agg (nc D.zero), .int .i64 15]) ∧ Below w.heap.size w w' := by
 have B0 : Blk ((w.alloc (.cells z12 33)).alloc (.cells z12 33)) w.heap.size 33 z12 := (Blk.new w _ z12).alloc _
 obtain ⟨w9, hst, B9, hg9⟩ := st_blk (.inr rfl) B0 rfl D.zero
 have h9 := rd_blk B9
 have hb9 := bel_grown (((Below.refl w.heap.size w).alloc (Nat.le_refl _) (.cells z12 33)).alloc (by simp) (.cells z12 33)) hg9 (Nat.le_refl _)
 clear B0 B9 hg9
 rcases h with h | h
 ·obtain rfl : s = ByteArray.empty := ByteArray.ext (Array.eq_empty_of_size_eq_zero h)
  clear h
  go_enter Tryz.func177, Tryz.ntmps177
  go_wp2
  refine bodyPost_ret (v := .tuple #[.agg (nc D.zero), .int .i64 15]) (by rw [results_cell_tmp rfl]; simp [asAddr, Result.andThen, lv_of h9]) rfl ⟨rfl, hb9⟩
 ·have c1 : ((s.size : Int) == 0) = false := by rw [beq_eq_false_iff_ne]; omega
  have c2 : decide ((12 : Int) < (s.size : Int)) = true := decide_eq_true (by omega)
  have c3 : ¬ s = ByteArray.empty := by rintro rfl; simp at h
  go_enter Tryz.func177, Tryz.ntmps177
  go_wp2
  refine bodyPost_ret (v := .tuple #[.agg (nc D.zero), .int .i64 15]) (by rw [results_cell_tmp rfl]; simp [asAddr, Result.andThen, lv_of h9]) rfl ⟨rfl, hb9⟩
set_option maxHeartbeats 1000000 in
theorem parse_first (s : ByteArray) (w : World) (h1 : 1 ≤ s.size) (h2 : s.size ≤ 12) (hl : D.letB (s[0].toNat) = false) :
  Calls Tryz.prog 177 #[.string s] w fun e w' => e = .returned (.tuple #[.agg (nc D.zero), .int .i64 15]) ∧ Below w.heap.size w w' := by
 have B0 : Blk ((w.alloc (.cells z12 33)).alloc (.cells z12 33)) w.heap.size 33 z12 := (Blk.new w _ z12).alloc _
 obtain ⟨w9, hst, B9, hg9⟩ := st_blk (.inr rfl) B0 rfl D.zero
 have h9 := rd_blk B9
 have hb9 := bel_grown (((Below.refl w.heap.size w).alloc (Nat.le_refl _) (.cells z12 33)).alloc (by simp) (.cells z12 33)) hg9 (Nat.le_refl _)
 clear B0 B9 hg9
 have H := Lib.hid (fun w => letter_any (s[0].toNat) w)
 rw [hl] at H
 clear hl
 have c1 : ((s.size : Int) == 0) = false := by rw [beq_eq_false_iff_ne]; omega
 have c2 : decide ((12 : Int) < (s.size : Int)) = false := decide_eq_false (by omega)
 have c3 : ¬ s = ByteArray.empty := by rintro rfl; simp at h1
 go_enter Tryz.func177, Tryz.ntmps177
 go_wp2_with (go_at_call 191; (with_reducible refine (H.out _).mono ?_); rintro e w' ⟨rfl, rfl⟩)
 refine bodyPost_ret (v := .tuple #[.agg (nc D.zero), .int .i64 15]) (by rw [results_cell_tmp rfl]; simp [asAddr, Result.andThen, lv_of h9]) rfl ⟨rfl, hb9⟩
set_option maxHeartbeats 1000000 in
theorem parse_later (s : ByteArray) (w : World) (h1 : 1 ≤ s.size) (h2 : s.size ≤ 12) (hl : D.letB (s[0].toNat) = true) (h4 : Kept (¬ ∀ c ∈ D.ns s, D.mayB c = true)) :
  Calls Tryz.prog 177 #[.string s] w fun e w' => e = .returned (.tuple #[.agg (nc D.zero), .int .i64 15]) ∧ Below w.heap.size w w' := by
 have H := Lib.hid (fun w => letter_any (s[0].toNat) w)
 rw [hl] at H
 clear hl
 have hcv := fun W => run_bytes_of_string (P := Tryz.prog) W 9 210 5 s Tryz.underlying9 Tryz.underlying210 Tryz.underlying5
 have c1 : ((s.size : Int) == 0) = false := by rw [beq_eq_false_iff_ne]; omega
 have c2 : decide ((12 : Int) < (s.size : Int)) = false := decide_eq_false (by omega)
 have c3 : ¬ s = ByteArray.empty := by rintro rfl; simp at h1
 go_enter Tryz.func177, Tryz.ntmps177
 go_wp2_with (go_at_call 191; (with_reducible refine (H.out _).mono ?_); rintro e w' ⟨rfl, rfl⟩)
 clear hcv c1 c2 c3
 go_loopw [25] (fun i wr => ∃ k : Nat, k ≤ s.size ∧ i = .int .i64 k ∧ Blk wr w.heap.size 33 z12 ∧ Blk wr (w.heap.size + 1) 33 (pcs (D.ns s) k) ∧ Row wr (some ⟨w.heap.size + 2, 0, none⟩) s.size (bys (D.ns s)) ∧ Fine (D.ns s) k ∧ Below w.heap.size w wr) (fun i _ => s.size - (intOf i).toNat)
 case atStart =>
  refine ⟨0, Nat.zero_le _, rfl, ?_, ?_, ?_, fine_first _, ?_⟩
  ·exact (((Blk.new w _ z12).alloc _).drew).alloc _
  ·rw [pcs_zero]
   have := Blk.new (w.alloc (.cells z12 33)) 33 z12
   simp only [World.size_alloc] at this
   exact this.drew.alloc _
  ·have := row_of_text ((w.alloc (.cells z12 33)).alloc (.cells z12 33)).drew s
   simp only [World.size_drew, World.size_alloc] at this
   exact this _ _ _
  ·exact ((((Below.refl _ _).alloc (Nat.le_refl _) _).alloc (by simp) _).drew).alloc (by simp; omega) _
 case round =>
  obtain ⟨k, hk, rfl, B0, B1, R, HF, hbel⟩ := hrel
  by_cases hlt : k < s.size
  ·obtain ⟨b, hb, hbm⟩ := at_lt (l := D.ns s) (i := k) (by rw [D.ns_len]; exact hlt)
   obtain ⟨ad, e, cx⟩ := R.cell (bys_at hb)
   injection e with e
   subst e
   simp only [Addr.add_lit, Nat.zero_add] at cx
   have i1 : (k : Int) < (s.size : Int) := by omega
   have i2 : (k : Int) < 12 := by omega
   by_cases hm : D.mayB b = true
   ·have HM := Lib.hid (fun w => may_any b w)
    rw [hm] at HM
    have HN := fine_next HF hb hm
    have hbn := B1.put k (.int .u8 b)
    rw [pcs_next hb (by omega)] at hbn
    have hcs : ∃ v, wr.cell? ⟨w.heap.size + 1, k, none⟩ = some v := by
     rw [B1.c]
     exact ⟨_, Array.getElem?_eq_getElem (by rw [pcs_size]; omega)⟩
    obtain ⟨v0, hc⟩ := hcs
    have hf := B1.f k
    have hb0 := B0.far (p := ⟨w.heap.size + 1, k, none⟩) (by simp) (.int .u8 b)
    have hR : Row (wr.setCell ⟨w.heap.size + 1, k, none⟩ (.int .u8 b)) (some ⟨w.heap.size + 2, 0, none⟩) s.size (bys (D.ns s)) := by
     refine ⟨R.len, fun hn => ?_⟩
     obtain ⟨ad, e, hl, hc⟩ := R.tow hn
     injection e with e
     subst e
     refine ⟨_, rfl, by simpa [World.setCell] using hl, fun j u hu => ?_⟩
     rw [← hc j u hu]
     exact World.cell?_of_block (w := wr) (by rw [block_of_add]; exact Below.heap_setCell _ _ _ _ (by simp))
    clear hb hm B1 R B0
    go_wp2_with (go_at_call 192; (with_reducible refine (HM.out _).mono ?_); rintro e w' ⟨rfl, rfl⟩)
    go_roundw
    case rel => exact ⟨k + 1, by omega, by go_num, hb0, hbn, hR, HN, hbel.setCell (by simp) _⟩
    case measure => simp [intOf]; omega
   ·have hm' : D.mayB b = false := by simpa using hm
    have HM := Lib.hid (fun w => may_any b w)
    rw [hm'] at HM
    obtain ⟨w9, hst, B9, hg9⟩ := st_blk (.inr rfl) B0 rfl D.zero
    have h9 := rd_blk B9
    clear hb hm hm' B1 R B0
    go_wp2_with (go_at_call 192; (with_reducible refine (HM.out _).mono ?_); rintro e w' ⟨rfl, rfl⟩)
    refine bodyPost_ret (v := .tuple #[.agg (nc D.zero), .int .i64 15]) (by rw [results_cell_tmp rfl]; simp [asAddr, Result.andThen, lv_of h9]) rfl ⟨rfl, bel_grown hbel hg9 (Nat.le_refl _)⟩
  ·exact absurd (fun c hc => by
    obtain ⟨i, hi, e⟩ := List.getElem_of_mem hc
    exact HF.out i c (by have := D.ns_len s; omega) (by rw [List.getElem?_eq_getElem hi, e])) h4.out
theorem parse_no (s : ByteArray) (w : World) (h : D.isB (D.ns s) = false) :
  Calls Tryz.prog 177 #[.string s] w fun e w' => e = .returned (.tuple #[.agg (nc D.zero), .int .i64 15]) ∧ Below w.heap.size w w' := by
 by_cases h1 : s.size = 0 ∨ 12 < s.size
 ·exact parse_short s w h1
 ·have h1' : 1 ≤ s.size := by omega
  have h2 : s.size ≤ 12 := by omega
  have h3 : D.letB ((D.ns s).getD 0 0) = D.letB (s[0].toNat) := by
   have := ns_at (s := s) (k := 0) (by omega)
   rw [List.getD, this]; rfl
  cases hl : D.letB (s[0].toNat)
  ·exact parse_first s w h1' h2 hl
  ·exact parse_later s w h1' h2 hl ⟨fun h4 => by
    have : D.isB (D.ns s) = true := D.isB_iff.2 ⟨by rw [D.ns_len]; exact h1', by rw [D.ns_len]; exact h2, by rw [h3, hl], h4⟩
    rw [this] at h; cases h⟩
end Go.Proofs.YtjlaffgbmcpldaaGreatDoor.Nm
set_option linter.unusedVariables false
set_option linter.unusedSimpArgs false
set_option maxRecDepth 100000
namespace Go.Proofs.YtjlaffgbmcpldaaGreatDoor.Nm
open Go.RowKit
attribute [local go_sem ↓] Go.wp_at_zero Go.wp_at_succ ld_a ld_n st_a st_n eq_a eq_n ne_a ne_n lv_a lv_n
attribute [local go_sem] run_ld_a run_ld_n run_st_n run_eq_a run_eq_n run_ne_a run_ne_n run_lv_a run_lv_n st_z ne_z rd_new rd_old rd_drew rd_drewN

def ix (l : List Nat) : Int := if (D.hd l).length = l.length then -1 else ((D.hd l).length : Int)
theorem ix_of : ∀ l : List Nat, (∀ b ∈ l, b < 256) → Lib.indexByte (Lib.bytesOf (l.map fun b : Nat => (b : Int))) 0 = ix l
 | [], _ => rfl
 | a :: l, h => by
  have ih := ix_of l fun b hb => h b (by simp [hb])
  have ha := h a (by simp)
  simp only [List.map_cons, Lib.bytesOf, Lib.indexByte] at ih ⊢
  by_cases e : a = 0
  ·subst e
   simp [ix, D.hd]
  ·have hne : ¬ (UInt8.ofNat (a : Int).toNat == 0) = true := by
    simp
    intro h0
    have := congrArg UInt8.toNat h0
    simp at this
    omega
   have hh : D.hd (a :: l) = a :: D.hd l := by simp [D.hd, e]
   have hx : ix (a :: l) = if (D.hd l).length + 1 = l.length + 1 then -1 else (((D.hd l).length + 1 : Nat) : Int) := by simp only [ix, hh, List.length_cons]
   simp only [ih]
   rw [if_neg hne, hx]
   by_cases h2 : (D.hd l).length = l.length
   ·have e1 : ix l = -1 := by simp only [ix, h2, if_true]
    simp only [e1]
    have h3 : (D.hd l).length + 1 = l.length + 1 := by omega
    rw [if_pos h3]; rfl
   ·have e1 : ix l = ((D.hd l).length : Int) := if_neg h2
    simp only [e1]
    rw [if_neg (by rw [beq_iff_eq]; omega), if_neg (by omega)]
    simp
theorem index_byte (g n c : Nat) (l : List Nat) (z : Int) (w : World) (hr : Row w (some ⟨g, 0, none⟩) n (bys l)) (hl : Kept (∀ b ∈ l, b < 256)) (hz : Kept (ix l = z)) :
  Calls Tryz.prog 220 #[.slice (some ⟨g, 0, none⟩) n c, .int .u8 0] w fun e w' => e = .returned (.int .i64 z) ∧ w = w' := by
 have hlen := hr.len
 rw [bys_len] at hlen
 have hrun := Lib.run_indexByteSlice (P := Tryz.prog) w g 0 n c (l.map fun b : Nat => (b : Int)) (by simpa using hlen) (fun i hi => by
  obtain ⟨b, hb, _⟩ := at_lt (l := l) (i := i) (by omega)
  obtain ⟨ad, e, hc⟩ := hr.cell (bys_at hb)
  injection e with e
  subst e
  rw [Addr.add_lit] at hc
  rw [hc]
  simp [List.getD, hb]) 0
 rw [show (0 : Int).toNat.toUInt8 = 0 from rfl, ix_of l hl.out, hz.out] at hrun
 have HR := Lib.hid hrun
 clear hrun hlen
 go_enter Tryz.func220, Tryz.ntmps220
 go_wp2
 rw [run_callFunc_extern Tryz.func235 (by kernel_rfl) (by kernel_rfl) (by kernel_rfl) (e := Extern.BytealgIndexByte.indexByte) (by kernel_rfl), HR.out]
 simp only [Result.andThen]
 rw [Oper.upon_value]
 go_wp2
 go_ret
 exact ⟨rfl, rfl⟩
theorem index_any (g s n c : Nat) (l : List Nat) (z : Int) (w : World) (hr : Row w (some ⟨g, 0, none⟩) n (bys l)) (hs : w.cell? ⟨s, 0, none⟩ = some (.int .u8 0)) (hl : Kept (∀ b ∈ l, b < 256)) (hz : Kept (ix l = z)) :
  Calls Tryz.prog 206 #[.slice (some ⟨g, 0, none⟩) n c, .slice (some ⟨s, 0, none⟩) 1 1] w fun e w' => e = .returned (.int .i64 z) ∧ w = w' := by
 have H := Lib.hid (index_byte g n c l z w hr hl hz)
 clear hr hl hz
 set_option maxRecDepth 100000 in
 go_enter Tryz.func206, Tryz.ntmps206
 go_wp2_with (go_at_call 220; (with_reducible refine H.out.mono ?_); rintro e w1 ⟨rfl, rfl⟩)
 go_ret
 exact ⟨rfl, rfl⟩

theorem str_run (W : World) (A : Option Addr) (n c : Nat) (l : List Nat) (h : Row W A n (bys l)) (hl : ∀ b ∈ l, b < 256) :
  (convert 210 9 (.slice A n c)).run Tryz.prog W = .ok (.string (D.sb l)) W := by
 have hlen := h.len
 rw [bys_len] at hlen
 rcases A with _ | ad
 ·have : l = [] := by
   rcases Nat.eq_zero_or_pos n with h0 | h0
   ·exact List.eq_nil_of_length_eq_zero (by omega)
   ·obtain ⟨ad, e, _⟩ := h.tow h0
    cases e
  subst this
  have : n = 0 := by simpa using hlen.symm
  subst this
  exact Lib.run_convert_nil_bytes W _ _ 5 c Tryz.underlying210 Tryz.underlying5 Tryz.underlying9
 ·have hr := run_convert_bytes_back (P := Tryz.prog) W 210 9 5 ad c (l.map UInt8.ofNat) Tryz.underlying210 Tryz.underlying5 Tryz.underlying9 (fun j hj => by
   have hj' : j < l.length := by simpa using hj
   have hq : l[j]? = some l[j] := List.getElem?_eq_getElem hj'
   obtain ⟨ad', e, hc⟩ := h.cell (bys_at hq)
   injection e with e
   subst e
   rw [hc]
   have := hl _ (List.getElem_mem hj')
   simp
   omega)
  rw [List.length_map, hlen] at hr
  exact hr
theorem upto_same (A : Option Addr) (n c k : Nat) (hk : k ≤ c) : ∀ W, (Instr.slice 210 (.slice A n c) none (some (.int .i64 (k : Int))) none).run Tryz.prog W = .ok (.slice A k c) W := by
 intro W
 rw [run_slice_h W 210 A n c (by kernel_rfl) .i64 k (by omega) (by omega)]
 have : ∀ a : Addr, a.add 0 = a := add_zero_
 simp [Result.andThen, sliced, go_sem]
def Cutted (g m : Nat) (w : World) (e : Ending) (w' : World) : Prop := ∃ v b, e = .returned (.tuple #[.slice (some ⟨g, 0, none⟩) m 12, v, .bool b]) ∧ ∃ q, w' = w.drewN q
set_option maxHeartbeats 1000000 in
theorem cut_any (g s m : Nat) (l : List Nat) (w : World) (hr : Row w (some ⟨g, 0, none⟩) 12 (bys l)) (hs : w.cell? ⟨s, 0, none⟩ = some (.int .u8 0)) (hl : Kept (∀ b ∈ l, b < 256)) (hm : Kept ((D.hd l).length = m)) :
  Calls Tryz.prog 193 #[.slice (some ⟨g, 0, none⟩) 12 12, .slice (some ⟨s, 0, none⟩) 1 1] w (Cutted g m w) := by
 have hlen := hr.len
 rw [bys_len] at hlen
 have hle := D.hd_le l
 rw [hm.out, hlen] at hle
 have H := fun z hz => index_any g s 12 12 l z w hr hs hl ⟨hz⟩
 by_cases h12 : m = 12
 ·have H1 := Lib.hid (H (-1) (by rw [ix, if_pos (by rw [hm.out, hlen, h12])]))
  subst h12
  clear H hlen hle hm hr hs
  go_enter Tryz.func193, Tryz.ntmps193
  go_wp2_with (go_at_call 206; (with_reducible refine H1.out.mono ?_); rintro e w1 ⟨rfl, rfl⟩)
  go_ret3
  exact ⟨_, _, rfl, 0, rfl⟩
 ·have H1 := Lib.hid (H (m : Int) (by rw [ix, if_neg (by rw [hm.out, hlen]; exact h12), hm.out]))
  have i1 : (0 : Int) ≤ (m : Int) := by omega
  have i2 : (m : Int) < 12 := by omega
  have hx : IntKind.i64.wrap ((m : Int) + 1) = ((m + 1 : Nat) : Int) := by rw [IntKind.wrap_i64]; omega
  have hup := upto_same (some ⟨g, 0, none⟩) 12 12 m (by omega)
  obtain ⟨A2, hfr, _⟩ := from_run_b (some ⟨g, 0, none⟩) 12 12 (m + 1) ((m : Int) + 1) (by omega) (by omega)
  clear H hlen hle hm hr hs hx
  go_enter Tryz.func193, Tryz.ntmps193
  go_wp2_with (go_at_call 206; (with_reducible refine H1.out.mono ?_); rintro e w1 ⟨rfl, rfl⟩)
  go_quiet (fail)
  go_wp2
  go_ret3
  exact ⟨_, _, rfl, _, rfl⟩
theorem row_head {w : World} {g m : Nat} {l : List Nat} (h : Row w (some ⟨g, 0, none⟩) 12 (bys l)) (hm : (D.hd l).length = m) (hl : l.length = 12) : Row w (some ⟨g, 0, none⟩) m (bys (D.hd l)) := by
 have hle := D.hd_le l
 have e : D.hd l = l.take m := by
  subst hm
  have h1 := List.takeWhile_append_dropWhile (p := fun b => decide (b ≠ 0)) (l := l)
  have h2 : (D.hd l ++ l.dropWhile fun b => decide (b ≠ 0)).take (D.hd l).length = D.hd l := List.take_left
  rw [show D.hd l ++ l.dropWhile (fun b => decide (b ≠ 0)) = l from h1] at h2
  exact h2.symm
 have := h.take (k := m) (by omega)
 rw [e, ← bys_take]
 exact this
theorem row_name {w : World} {g : Nat} {t : TypeId} {x : D.Nm} (h : Blk w g t (nc x)) : Row w (some ⟨g, 0, none⟩) 12 (bys x.l) := ⟨by rw [bys_len, x.len], fun _ => ⟨_, rfl, h.lt, at_of (rd_blk h)⟩⟩
set_option maxHeartbeats 1000000 in
theorem begin_any (x : D.Nm) (w : World) :
  Calls Tryz.prog 178 #[.agg (nc x)] w fun e w' => e = .returned (.string (D.sb (D.hd x.l))) ∧ Below w.heap.size w w' := by
 obtain ⟨m, hm⟩ : ∃ m, (D.hd x.l).length = m := ⟨_, rfl⟩
 have B0 : Blk ((w.alloc (.cells (nc x) 33)).alloc (.cells #[.int .u8 0] 5)) w.heap.size 33 (nc x) := (Blk.new w _ (nc x)).alloc _
 have B1 := Blk.new (w.alloc (.cells (nc x) 33)) 5 #[.int .u8 0]
 simp only [World.size_alloc] at B1
 have hc := Lib.hid (cut_any w.heap.size (w.heap.size + 1) m x.l _ (row_name B0) B1.cell ⟨x.lt⟩ ⟨hm⟩)
 have hs := Lib.hid (fun q => str_run (((w.alloc (.cells (nc x) 33)).alloc (.cells #[.int .u8 0] 5)).drewN q) (some ⟨w.heap.size, 0, none⟩) m 12 (D.hd x.l) ((row_head (row_name B0) hm x.len).drewN q) (fun b hb => x.lt b (D.hd_mem hb)))
 clear B0 B1 hm
 go_enter Tryz.func178, Tryz.ntmps178
 go_wp2_with (go_at_call 193; (with_reducible refine hc.out.mono ?_); rintro e w1 ⟨v, b, rfl, q, rfl⟩; have hs1 := hs.out q)
 go_ret
 exact ⟨rfl, below_drewN (((Below.refl _ _).alloc (Nat.le_refl _) _).alloc (by simp) _) q⟩

theorem hdp_pad (x : D.Nm) : D.pad (D.sb (D.hd x.l)) = D.hdp x := by
 have := D.ns_sb (l := D.hd x.l) fun b hb => x.lt b (D.hd_mem hb)
 refine D.Nm.eq ?_
 show D.padl (D.ns (D.sb (D.hd x.l))) 12 = D.padl (D.hd x.l) 12
 rw [this]
theorem ns_hd (x : D.Nm) : D.ns (D.sb (D.hd x.l)) = D.hd x.l := D.ns_sb fun b hb => x.lt b (D.hd_mem hb)
set_option maxHeartbeats 1000000 in
theorem right_any (x : D.Nm) (w : World) :
  Calls Tryz.prog 147 #[.agg (nc x)] w fun e w' => e = .returned (.bool (D.right x)) ∧ Below w.heap.size w w' := by
 have hb := begin_any x
 obtain ⟨s, hs⟩ : ∃ s, D.sb (D.hd x.l) = s := ⟨_, rfl⟩
 have hn := ns_hd x
 have hp := hdp_pad x
 rw [hs] at hb hn hp
 have HB := Lib.hid hb
 clear hb
 cases h : D.isB (D.hd x.l)
 ·have HP := Lib.hid (fun w => parse_no s w (by rw [hn, h]))
  have HR := Lib.hid (show false = D.right x by simp [D.right, h])
  clear hs hn hp h
  go_enter Tryz.func147, Tryz.ntmps147
  go_wp2_with (first
   | (go_at_call 178; (with_reducible refine (HB.out _).mono ?_); rintro e w1 ⟨rfl, b1⟩)
   | (go_at_call 177; (with_reducible refine (HP.out _).mono ?_); rintro e w2 ⟨rfl, b2⟩))
  go_ret
  have z1 := b1.size
  have z2 := b2.size
  simp only [World.size_alloc] at z1
  exact ⟨bool_of HR.out, (((below_alloc_ _ _).trans (b1.mono (by simp))).trans (b2.mono (by omega))).alloc (by omega) _⟩
 ·have HP := Lib.hid (fun w => parse_yes s w (by rw [hn, h]))
  have HR := Lib.hid (show sm (D.hdp x) x = D.right x by simp [D.right, h, sm])
  rw [hp] at HP
  clear hs hn hp h
  go_enter Tryz.func147, Tryz.ntmps147
  go_wp2_with (first
   | (go_at_call 178; (with_reducible refine (HB.out _).mono ?_); rintro e w1 ⟨rfl, b1⟩)
   | (go_at_call 177; (with_reducible refine (HP.out _).mono ?_); rintro e w2 ⟨rfl, b2⟩; have f2 := rd_on (rd_on (rd_new w _ 33 x rfl) b1) b2; have z2 : w.heap.size < w2.heap.size := (by have := b1.size; have := b2.size; simp at *; omega)))
  go_ret
  have z1 := b1.size
  simp only [World.size_alloc] at z1
  exact ⟨bool_of HR.out, (((below_alloc_ _ _).trans (b1.mono (by simp))).trans (b2.mono (by omega))).alloc (by omega) _⟩
def ts (x : D.Nm) : ByteArray := D.sb (D.txt x)
end Go.Proofs.YtjlaffgbmcpldaaGreatDoor.Nm
set_option linter.unusedVariables false
set_option linter.unusedSimpArgs false
set_option maxRecDepth 100000
namespace Go.Proofs.YtjlaffgbmcpldaaGreatDoor.Nm
open Go.RowKit
attribute [local go_sem ↓] Go.wp_at_zero Go.wp_at_succ ld_a ld_n st_a st_n eq_a eq_n ne_a ne_n lv_a lv_n
attribute [local go_sem] run_ld_a run_ld_n run_st_n run_eq_a run_eq_n run_ne_a run_ne_n run_lv_a run_lv_n st_z ne_z rd_new rd_old rd_drew rd_drewN

theorem drop_at {l : List Nat} {j x : Nat} (h : l[j]? = some x) : l.drop j = x :: l.drop (j + 1) := by
 obtain ⟨h1, h2⟩ := List.getElem?_eq_some_iff.1 h
 rw [List.drop_eq_getElem_cons h1, h2]
theorem nm_at (x : D.Nm) {j : Nat} (h : j < 12) : ∃ b, x.l[j]? = some b ∧ b < 256 := ⟨x.l[j]'(by rw [x.len]; exact h), List.getElem?_eq_getElem _, x.lt _ (List.getElem_mem _)⟩
theorem blk_at {w : World} {g : Nat} {t : TypeId} {x : D.Nm} {j b : Nat} (h : Blk w g t (nc x)) (hb : x.l[j]? = some b) : w.cell? ⟨g, j, none⟩ = some (.int .u8 b) := by
 rw [h.c j]
 simp [nc, bys, hb]
structure Good (t : List Nat) (k : Nat) : Prop where
 fine : Fine t k
 first : 0 < k → D.letB (t.getD 0 0) = true
theorem good_next {t : List Nat} {k b : Nat} (h : Good t k) (hb : t[k]? = some b) (hm : D.mayB b = true) (hl : k = 0 → D.letB b = true) : Good t (k + 1) := ⟨fine_next h.fine hb hm, fun _ => by
 by_cases e : k = 0
 ·subst e
  rw [List.getD, hb]
  exact hl rfl
 ·exact h.first (by omega)⟩
theorem not_good {t : List Nat} {k b : Nat} (hb : t[k]? = some b) (h : D.mayB b = false ∨ (k = 0 ∧ D.letB b = false)) : false = D.isB t := by
 rcases h with h | ⟨rfl, h⟩
 ·exact (not_fine hb h).symm
 ·cases hi : D.isB t
  ·rfl
  ·have := (D.isB_iff.1 hi).2.2.1
   rw [List.getD, hb] at this
   simp only [Option.getD_some] at this
   rw [h] at this; cases this
set_option maxRecDepth 100000 in
set_option maxHeartbeats 1000000 in
theorem ref_is (s : ByteArray) (w : World) :
  Calls Tryz.prog 155 #[.string s] w fun e w' => e = .returned (.bool (D.isB (D.ns s))) ∧ w = w' := by
 by_cases h1 : 1 ≤ s.size
 ·by_cases h2 : s.size ≤ 12
  ·have c1 : ¬ ((s.size : Int) < 1) := by omega
   have c2 : ¬ ((12 : Int) < (s.size : Int)) := by omega
   go_enter Tryz.func155, Tryz.ntmps155
   go_wp2
   go_loop [3] (fun i => ∃ k : Nat, k ≤ s.size ∧ i = .int .i64 k ∧ Good (D.ns s) k) (fun i => s.size - (intOf i).toNat)
   case atStart => exact ⟨0, Nat.zero_le _, rfl, fine_first _, fun h => absurd h (by omega)⟩
   case round =>
    obtain ⟨k, hk, rfl, HG⟩ := hrel
    by_cases hlt : k < s.size
    ·have hb := ns_at hlt
     obtain ⟨b, hq⟩ : ∃ b, s[k].toNat = b := ⟨_, rfl⟩
     have HN := fun hm hl => good_next (b := b) HG (by rw [← hq]; exact hb) hm hl
     have HB := fun h => not_good (b := b) (t := D.ns s) (k := k) (by rw [← hq]; exact hb) h
     have H1 := Lib.hid HN
     have H2 := Lib.hid HB
     clear HN HB HG hb c1 c2
     go_wp2
     all_goals first
      | (go_ret
         refine ⟨bool_of (H2.out ?_), rfl⟩
         go_light
         (try simp at *)
         simp [D.mayB, D.letB]
         omega)
      | (go_round
         case rel =>
          refine ⟨k + 1, by omega, by go_num, H1.out ?_ ?_⟩
          ·go_light
           (try simp at *)
           simp [D.mayB, D.letB]
           omega
          ·go_light
           (try simp at *)
           simp [D.letB]
           omega
         case measure => simp [intOf]; omega)
    ·have HI := Lib.hid (show true = D.isB (D.ns s) from (fine_all HG.fine (by rw [D.ns_len]; omega) (by rw [D.ns_len]; exact h1) (by rw [D.ns_len]; exact h2) (HG.first (by omega))).symm)
     clear HG c1 c2
     go_wp2
     go_ret
     exact ⟨bool_of HI.out, rfl⟩
  ·have HI := Lib.hid (show false = D.isB (D.ns s) by simp [D.isB, D.ns_len, h2])
   have c1 : decide ((s.size : Int) < 1) = false := decide_eq_false (by omega)
   have c2 : decide ((12 : Int) < (s.size : Int)) = true := decide_eq_true (by omega)
   go_enter Tryz.func155, Tryz.ntmps155
   go_wp2
   go_ret
   exact ⟨bool_of HI.out, rfl⟩
 ·have HI := Lib.hid (show false = D.isB (D.ns s) by simp [D.isB, D.ns_len]; omega)
  have c1 : decide ((s.size : Int) < 1) = true := decide_eq_true (by omega)
  go_enter Tryz.func155, Tryz.ntmps155
  go_wp2
  go_ret
  exact ⟨bool_of HI.out, rfl⟩
end Go.Proofs.YtjlaffgbmcpldaaGreatDoor.Nm
