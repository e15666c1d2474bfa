/-
  
-/
import Derived.Test.YtgnjjlgmlokhmaaGreatDoorARow
import Derived.Lib.ConvBytes
import Derived.Deep.RegionHeld3
import Derived.Deep.DrawnRows
import Derived.Laws.IdiomStrings
import Derived.Lib.BytesEntry
import Derived.Lib.IndexLaws
import Derived.Laws.BytesString
import Derived.Laws.IdiomElems
import Derived.Lib.BufferRead
import Derived.Test.YtgnjjlgmlokhmaaGreatDoorG12
import Derived.Test.YtgnjjlgmlokhmaaGreatDoorG14
set_option linter.unusedVariables false
set_option linter.unusedSimpArgs false
set_option maxRecDepth 100000
namespace Go.Proofs.YtgnjjlgmlokhmaaGreatDoor.Nm
open Go.RowKit
attribute [local go_sem ↓] Go.wp_at_zero Go.wp_at_succ ld_a ld_n st_a st_n eq_a eq_n ne_a ne_n lv_a lv_n
attribute [local go_sem] run_ld_a run_ld_n run_st_n run_eq_a run_eq_n run_ne_a run_ne_n run_lv_a run_lv_n st_z ne_z rd_new rd_old rd_drew rd_drewN

theorem letter_any (c : Nat) (w : World) : Calls Tryz.prog 101 #[.int .u8 c] w fun e w' => e = .returned (.bool (D.letB c)) ∧ w = w' := by
 go_enter Tryz.func101, Tryz.ntmps101
 go_wp2
 all_goals
  go_ret
  refine ⟨bool_of ?_, rfl⟩
  unfold D.letB
  rw [Bool.eq_iff_iff]
  simp
  omega
theorem may_any (c : Nat) (w : World) : Calls Tryz.prog 102 #[.int .u8 c] w fun e w' => e = .returned (.bool (D.mayB c)) ∧ w = w' := by
 have H := Lib.hid (letter_any c)
 obtain ⟨b, hb⟩ : ∃ b, D.letB c = b := ⟨_, rfl⟩
 rw [hb] at H
 have HB := Lib.hid hb
 clear hb
 cases b
 all_goals
  go_enter Tryz.func102, Tryz.ntmps102
  go_wp2_with (go_at_call 101; (with_reducible refine (H.out _).mono ?_); rintro e w' ⟨rfl, rfl⟩)
  all_goals
   go_ret
   refine ⟨bool_of ?_, rfl⟩
   unfold D.mayB
   rw [HB.out, Bool.eq_iff_iff]
   simp
   try omega

structure Fine (t : List Nat) (k : Nat) : Prop where
 out : ∀ i b, i < k -> t[i]? = some b -> D.mayB b = true
theorem fine_first (t : List Nat) : Fine t 0 := ⟨fun i b h => absurd h (by omega)⟩
theorem fine_next {t : List Nat} {k b : Nat} (h : Fine t k) (hb : t[k]? = some b) (hm : D.mayB b = true) : Fine t (k + 1) := ⟨fun i c hi hc => by
 by_cases e : i = k
 ·subst e
  rw [hb] at hc
  injection hc with hc
  subst hc
  exact hm
 ·exact h.out i c (by omega) hc⟩
theorem fine_all {t : List Nat} {k : Nat} (h : Fine t k) (hk : t.length <= k) (h1 : 1 <= t.length) (h2 : t.length <= 12) (hl : D.letB (t.getD 0 0) = true) : D.isB t = true :=
 D.isB_iff.2 ⟨h1, h2, hl, fun c hc => by
  obtain ⟨i, hi, e⟩ := List.getElem_of_mem hc
  exact h.out i c (by omega) (by rw [List.getElem?_eq_getElem hi, e])⟩
theorem not_fine {t : List Nat} {k b : Nat} (hb : t[k]? = some b) (hm : D.mayB b = false) : D.isB t = false := by
 cases h : D.isB t
 ·rfl
 ·have := (D.isB_iff.1 h).2.2.2 b (List.mem_of_getElem? hb)
  rw [hm] at this; cases this

theorem row_of_text (w : World) (s : ByteArray) (cap : Nat) (t : TypeId) (fr : Nat × Nat) : Row (w.alloc (.cells (bytesRow s cap) t fr)) (some ⟨w.heap.size, 0, none⟩) s.size (bys (D.ns s)) :=
 ⟨by rw [bys_len, D.ns_len], fun _ => ⟨_, rfl, by simp, fun j u hu => by
  have hj : j < s.data.size := by
   have := (List.getElem?_eq_some_iff.1 hu).1
   rw [bys_len, D.ns_len] at this
   exact this
  rw [World.news_of_block (heap_alloc_new w _) j u]
  rw [Array.getElem?_toList, bytesRow_at s cap j hj]
  simp [bys, D.ns] at hu
  obtain ⟨a, ha, rfl⟩ := hu
  have : s.data[j]? = some s.data[j] := Array.getElem?_eq_getElem hj
  rw [this] at ha
  injection ha with ha
  rw [ha]⟩⟩
theorem ns_at {s : ByteArray} {k : Nat} (h : k < s.size) : (D.ns s)[k]? = some (s[k].toNat) := by
 simp [D.ns]
 exact ⟨s[k], by rw [Array.getElem?_eq_getElem (by exact h)]; rfl, rfl⟩
def pcs (t : List Nat) (k : Nat) : Array Value := (bys (D.padl t k)).toArray
theorem pcs_zero (t : List Nat) : pcs t 0 = z12 := by rw [pcs, D.padl_zero]; rfl
theorem pcs_size (t : List Nat) (k : Nat) : (pcs t k).size = 12 := by simp [pcs, bys_len, D.padl_len]
theorem pcs_next {t : List Nat} {k b : Nat} (hb : t[k]? = some b) (hk : k < 12) : (pcs t k).setIfInBounds k (.int .u8 b) = pcs t (k + 1) := by
 rw [pcs, pcs, <- D.padl_next hb hk, bys, bys, List.setIfInBounds_toArray, List.map_set]
theorem pcs_end (s : ByteArray) (h : s.size <= 12) : pcs (D.ns s) s.size = nc (D.pad s) := by
 have := D.padl_all (t := D.ns s) 12 (by rw [D.ns_len]; exact h)
 rw [D.ns_len] at this
 rw [pcs, nc, D.pad, D.padN]
 simp only
 rw [this]

theorem bel_grown {w0 w w' : World} {g : Nat} (h : Below w0.heap.size w0 w) (hg : w.grownBy w' (some g)) (hge : w0.heap.size <= g) : Below w0.heap.size w0 w' :=
 h.grown hg h.size fun k hk => by injection hk with hk; omega
set_option maxHeartbeats 1000000 in
theorem parse_yes (s : ByteArray) (w : World) (h : D.isB (D.ns s) = true) :
  Calls Tryz.prog 71 #[.string s] w fun e w' => e = .returned (.tuple #[.agg (nc (D.pad s)), .int .i64 0]) ∧ Below w.heap.size w w' := by
 obtain ⟨h1, h2, h3, h4⟩ := D.isB_iff.1 h
 rw [D.ns_len] at h1 h2
 have hl : D.letB (s[0].toNat) = true := by
  have := ns_at (s := s) (k := 0) (by omega)
  rwa [List.getD, this] at h3
 have H := Lib.hid (fun w => letter_any (s[0].toNat) w)
 rw [hl] at H
 have H4 : Kept (∀ c ∈ D.ns s, D.mayB c = true) := ⟨h4⟩
 clear h3 hl h h4
 have hcv := fun W => run_bytes_of_string (P := Tryz.prog) W 9 90 5 s Tryz.underlying9 Tryz.underlying90 Tryz.underlying5
 have c1 : ((s.size : Int) == 0) = false := by rw [beq_eq_false_iff_ne]; omega
 have c2 : decide ((12 : Int) < (s.size : Int)) = false := decide_eq_false (by omega)
 have c3 : ¬ s = ByteArray.empty := by rintro rfl; simp at h1
 go_enter Tryz.func71, Tryz.ntmps71
 go_wp2_with (go_at_call 101; (with_reducible refine (H.out _).mono ?_); rintro e w' ⟨rfl, rfl⟩)
 clear hcv c1 c2 c3
 go_loopw [25] (fun i wr => ∃ k : Nat, k <= s.size ∧ i = .int .i64 k ∧ Blk wr w.heap.size 39 z12 ∧ Blk wr (w.heap.size + 1) 39 (pcs (D.ns s) k) ∧ Row wr (some ⟨w.heap.size + 2, 0, none⟩) s.size (bys (D.ns s)) ∧ Below w.heap.size w wr) (fun i _ => s.size - (intOf i).toNat)
 case atStart =>
  refine ⟨0, Nat.zero_le _, rfl, ?_, ?_, ?_, ?_⟩
  ·exact (((Blk.new w _ z12).alloc _).drew).alloc _
  ·rw [pcs_zero]
   have := Blk.new (w.alloc (.cells z12 39)) 39 z12
   simp only [World.size_alloc] at this
   exact this.drew.alloc _
  ·have := row_of_text ((w.alloc (.cells z12 39)).alloc (.cells z12 39)).drew s
   simp only [World.size_drew, World.size_alloc] at this
   exact this _ _ _
  ·exact ((((Below.refl _ _).alloc (Nat.le_refl _) _).alloc (by simp) _).drew).alloc (by simp; omega) _
 case round =>
  obtain ⟨k, hk, rfl, B0, B1, R, hbel⟩ := hrel
  by_cases hlt : k < s.size
  ·obtain ⟨b, hb, hbm⟩ := at_lt (l := D.ns s) (i := k) (by rw [D.ns_len]; exact hlt)
   have hm := H4.out b hbm
   have HM := Lib.hid (fun w => may_any b w)
   rw [hm] at HM
   obtain ⟨ad, e, cx⟩ := R.cell (bys_at hb)
   injection e with e
   subst e
   have hbn := B1.put k (.int .u8 b)
   rw [pcs_next hb (by omega)] at hbn
   have hcs : ∃ v, wr.cell? ⟨w.heap.size + 1, k, none⟩ = some v := by
    rw [B1.c]
    exact ⟨_, Array.getElem?_eq_getElem (by rw [pcs_size]; omega)⟩
   obtain ⟨v0, hc⟩ := hcs
   have hf := B1.f k
   have hb0 := B0.far (p := ⟨w.heap.size + 1, k, none⟩) (by simp) (.int .u8 b)
   have hR : Row (wr.setCell ⟨w.heap.size + 1, k, none⟩ (.int .u8 b)) (some ⟨w.heap.size + 2, 0, none⟩) s.size (bys (D.ns s)) := by
    refine ⟨R.len, fun hn => ?_⟩
    obtain ⟨ad, e, hl, hc⟩ := R.tow hn
    injection e with e
    subst e
    refine ⟨_, rfl, by simpa [World.setCell] using hl, fun j u hu => ?_⟩
    rw [<- hc j u hu]
    exact World.cell?_of_block (w := wr) (by rw [block_of_add]; exact Below.heap_setCell _ _ _ _ (by simp))
   have i1 : (k : Int) < (s.size : Int) := by omega
   have i2 : (k : Int) < 12 := by omega
   simp only [Addr.add_lit, Nat.zero_add] at cx
   clear hb hm B1 R B0
   go_wp2_with (go_at_call 102; (with_reducible refine (HM.out _).mono ?_); rintro e w' ⟨rfl, rfl⟩)
   go_roundw
   case rel => exact ⟨k + 1, by omega, by go_num, hb0, hbn, hR, hbel.setCell (by simp) _⟩
   case measure => simp [intOf]; omega
  ·have e : k = s.size := by omega
   subst e
   rw [pcs_end s h2] at B1
   have hx := rd_blk B1
   obtain ⟨w9, hst, B9, hg9⟩ := st_blk (.inr rfl) B0 rfl (D.pad s)
   have h9 := rd_blk B9
   clear B0 B1 R B9
   go_wp2
   refine bodyPost_ret (v := .tuple #[.agg (nc (D.pad s)), .int .i64 0]) (by rw [results_cell_tmp rfl]; simp [asAddr, Result.andThen, lv_of h9]) rfl ⟨rfl, bel_grown hbel hg9 (Nat.le_refl _)⟩

set_option maxHeartbeats 1000000 in
theorem parse_short (s : ByteArray) (w : World) (h : s.size = 0 ∨ 12 < s.size) :
  Calls Tryz.prog 71 #[.string s] w fun e w' => e = .returned (.tuple #[.agg (nc D.zero), .int .i64 15]) ∧ Below w.heap.size w w' := by
 have B0 : Blk ((w.alloc (.cells z12 39)).alloc (.cells z12 39)) w.heap.size 39 z12 := (Blk.new w _ z12).alloc _
 obtain ⟨w9, hst, B9, hg9⟩ := st_blk (.inr rfl) B0 rfl D.zero
 have h9 := rd_blk B9
 have hb9 := bel_grown (((Below.refl w.heap.size w).alloc (Nat.le_refl _) (.cells z12 39)).alloc (by simp) (.cells z12 39)) hg9 (Nat.le_refl _)
 clear B0 B9 hg9
 rcases h with h | h
 ·obtain rfl : s = ByteArray.empty := ByteArray.ext (Array.eq_empty_of_size_eq_zero h)
  clear h
  go_enter Tryz.func71, Tryz.ntmps71
  go_wp2
  refine bodyPost_ret (v := .tuple #[.agg (nc D.zero), .int .i64 15]) (by rw [results_cell_tmp rfl]; simp [asAddr, Result.andThen, lv_of h9]) rfl ⟨rfl, hb9⟩
 ·have c1 : ((s.size : Int) == 0) = false := by rw [beq_eq_false_iff_ne]; omega
  have c2 : decide ((12 : Int) < (s.size : Int)) = true := decide_eq_true (by omega)
  have c3 : ¬ s = ByteArray.empty := by rintro rfl; simp at h
  go_enter Tryz.func71, Tryz.ntmps71
  go_wp2
  refine bodyPost_ret (v := .tuple #[.agg (nc D.zero), .int .i64 15]) (by rw [results_cell_tmp rfl]; simp [asAddr, Result.andThen, lv_of h9]) rfl ⟨rfl, hb9⟩
set_option maxHeartbeats 1000000 in
theorem parse_first (s : ByteArray) (w : World) (h1 : 1 <= s.size) (h2 : s.size <= 12) (hl : D.letB (s[0].toNat) = false) :
  Calls Tryz.prog 71 #[.string s] w fun e w' => e = .returned (.tuple #[.agg (nc D.zero), .int .i64 15]) ∧ Below w.heap.size w w' := by
 have B0 : Blk ((w.alloc (.cells z12 39)).alloc (.cells z12 39)) w.heap.size 39 z12 := (Blk.new w _ z12).alloc _
 obtain ⟨w9, hst, B9, hg9⟩ := st_blk (.inr rfl) B0 rfl D.zero
 have h9 := rd_blk B9
 have hb9 := bel_grown (((Below.refl w.heap.size w).alloc (Nat.le_refl _) (.cells z12 39)).alloc (by simp) (.cells z12 39)) hg9 (Nat.le_refl _)
 clear B0 B9 hg9
 have H := Lib.hid (fun w => letter_any (s[0].toNat) w)
 rw [hl] at H
 clear hl
 have c1 : ((s.size : Int) == 0) = false := by rw [beq_eq_false_iff_ne]; omega
 have c2 : decide ((12 : Int) < (s.size : Int)) = false := decide_eq_false (by omega)
 have c3 : ¬ s = ByteArray.empty := by rintro rfl; simp at h1
 go_enter Tryz.func71, Tryz.ntmps71
 go_wp2_with (go_at_call 101; (with_reducible refine (H.out _).mono ?_); rintro e w' ⟨rfl, rfl⟩)
 refine bodyPost_ret (v := .tuple #[.agg (nc D.zero), .int .i64 15]) (by rw [results_cell_tmp rfl]; simp [asAddr, Result.andThen, lv_of h9]) rfl ⟨rfl, hb9⟩
set_option maxHeartbeats 1000000 in
theorem parse_later (s : ByteArray) (w : World) (h1 : 1 <= s.size) (h2 : s.size <= 12) (hl : D.letB (s[0].toNat) = true) (h4 : Kept (¬ ∀ c ∈ D.ns s, D.mayB c = true)) :
  Calls Tryz.prog 71 #[.string s] w fun e w' => e = .returned (.tuple #[.agg (nc D.zero), .int .i64 15]) ∧ Below w.heap.size w w' := by
 have H := Lib.hid (fun w => letter_any (s[0].toNat) w)
 rw [hl] at H
 clear hl
 have hcv := fun W => run_bytes_of_string (P := Tryz.prog) W 9 90 5 s Tryz.underlying9 Tryz.underlying90 Tryz.underlying5
 have c1 : ((s.size : Int) == 0) = false := by rw [beq_eq_false_iff_ne]; omega
 have c2 : decide ((12 : Int) < (s.size : Int)) = false := decide_eq_false (by omega)
 have c3 : ¬ s = ByteArray.empty := by rintro rfl; simp at h1
 go_enter Tryz.func71, Tryz.ntmps71
 go_wp2_with (go_at_call 101; (with_reducible refine (H.out _).mono ?_); rintro e w' ⟨rfl, rfl⟩)
 clear hcv c1 c2 c3
 go_loopw [25] (fun i wr => ∃ k : Nat, k <= s.size ∧ i = .int .i64 k ∧ Blk wr w.heap.size 39 z12 ∧ Blk wr (w.heap.size + 1) 39 (pcs (D.ns s) k) ∧ Row wr (some ⟨w.heap.size + 2, 0, none⟩) s.size (bys (D.ns s)) ∧ Fine (D.ns s) k ∧ Below w.heap.size w wr) (fun i _ => s.size - (intOf i).toNat)
 case atStart =>
  refine ⟨0, Nat.zero_le _, rfl, ?_, ?_, ?_, fine_first _, ?_⟩
  ·exact (((Blk.new w _ z12).alloc _).drew).alloc _
  ·rw [pcs_zero]
   have := Blk.new (w.alloc (.cells z12 39)) 39 z12
   simp only [World.size_alloc] at this
   exact this.drew.alloc _
  ·have := row_of_text ((w.alloc (.cells z12 39)).alloc (.cells z12 39)).drew s
   simp only [World.size_drew, World.size_alloc] at this
   exact this _ _ _
  ·exact ((((Below.refl _ _).alloc (Nat.le_refl _) _).alloc (by simp) _).drew).alloc (by simp; omega) _
 case round =>
  obtain ⟨k, hk, rfl, B0, B1, R, HF, hbel⟩ := hrel
  by_cases hlt : k < s.size
  ·obtain ⟨b, hb, hbm⟩ := at_lt (l := D.ns s) (i := k) (by rw [D.ns_len]; exact hlt)
   obtain ⟨ad, e, cx⟩ := R.cell (bys_at hb)
   injection e with e
   subst e
   simp only [Addr.add_lit, Nat.zero_add] at cx
   have i1 : (k : Int) < (s.size : Int) := by omega
   have i2 : (k : Int) < 12 := by omega
   by_cases hm : D.mayB b = true
   ·have HM := Lib.hid (fun w => may_any b w)
    rw [hm] at HM
    have HN := fine_next HF hb hm
    have hbn := B1.put k (.int .u8 b)
    rw [pcs_next hb (by omega)] at hbn
    have hcs : ∃ v, wr.cell? ⟨w.heap.size + 1, k, none⟩ = some v := by
     rw [B1.c]
     exact ⟨_, Array.getElem?_eq_getElem (by rw [pcs_size]; omega)⟩
    obtain ⟨v0, hc⟩ := hcs
    have hf := B1.f k
    have hb0 := B0.far (p := ⟨w.heap.size + 1, k, none⟩) (by simp) (.int .u8 b)
    have hR : Row (wr.setCell ⟨w.heap.size + 1, k, none⟩ (.int .u8 b)) (some ⟨w.heap.size + 2, 0, none⟩) s.size (bys (D.ns s)) := by
     refine ⟨R.len, fun hn => ?_⟩
     obtain ⟨ad, e, hl, hc⟩ := R.tow hn
     injection e with e
     subst e
     refine ⟨_, rfl, by simpa [World.setCell] using hl, fun j u hu => ?_⟩
     rw [<- hc j u hu]
     exact World.cell?_of_block (w := wr) (by rw [block_of_add]; exact Below.heap_setCell _ _ _ _ (by simp))
    clear hb hm B1 R B0
    go_wp2_with (go_at_call 102; (with_reducible refine (HM.out _).mono ?_); rintro e w' ⟨rfl, rfl⟩)
    go_roundw
    case rel => exact ⟨k + 1, by omega, by go_num, hb0, hbn, hR, HN, hbel.setCell (by simp) _⟩
    case measure => simp [intOf]; omega
   ·have hm' : D.mayB b = false := by simpa using hm
    have HM := Lib.hid (fun w => may_any b w)
    rw [hm'] at HM
    obtain ⟨w9, hst, B9, hg9⟩ := st_blk (.inr rfl) B0 rfl D.zero
    have h9 := rd_blk B9
    clear hb hm hm' B1 R B0
    go_wp2_with (go_at_call 102; (with_reducible refine (HM.out _).mono ?_); rintro e w' ⟨rfl, rfl⟩)
    refine bodyPost_ret (v := .tuple #[.agg (nc D.zero), .int .i64 15]) (by rw [results_cell_tmp rfl]; simp [asAddr, Result.andThen, lv_of h9]) rfl ⟨rfl, bel_grown hbel hg9 (Nat.le_refl _)⟩
  ·exact absurd (fun c hc => by
    obtain ⟨i, hi, e⟩ := List.getElem_of_mem hc
    exact HF.out i c (by have := D.ns_len s; omega) (by rw [List.getElem?_eq_getElem hi, e])) h4.out
theorem parse_no (s : ByteArray) (w : World) (h : D.isB (D.ns s) = false) :
  Calls Tryz.prog 71 #[.string s] w fun e w' => e = .returned (.tuple #[.agg (nc D.zero), .int .i64 15]) ∧ Below w.heap.size w w' := by
 by_cases h1 : s.size = 0 ∨ 12 < s.size
 ·exact parse_short s w h1
 ·have h1' : 1 <= s.size := by omega
  have h2 : s.size <= 12 := by omega
  have h3 : D.letB ((D.ns s).getD 0 0) = D.letB (s[0].toNat) := by
   have := ns_at (s := s) (k := 0) (by omega)
   rw [List.getD, this]; rfl
  cases hl : D.letB (s[0].toNat)
  ·exact parse_first s w h1' h2 hl
  ·exact parse_later s w h1' h2 hl ⟨fun h4 => by
    have : D.isB (D.ns s) = true := D.isB_iff.2 ⟨by rw [D.ns_len]; exact h1', by rw [D.ns_len]; exact h2, by rw [h3, hl], h4⟩
    rw [this] at h; cases h⟩
end Go.Proofs.YtgnjjlgmlokhmaaGreatDoor.Nm
namespace Go.Proofs.YtgnjjlgmlokhmaaGreatDoor.Nm
open Go.RowKit
attribute [local go_sem ↓] Go.wp_at_zero Go.wp_at_succ ld_a ld_n st_a st_n eq_a eq_n ne_a ne_n lv_a lv_n
attribute [local go_sem] run_ld_a run_ld_n run_st_n run_eq_a run_eq_n run_ne_a run_ne_n run_lv_a run_lv_n st_z ne_z rd_new rd_old rd_drew rd_drewN

def ix (l : List Nat) : Int := if (D.hd l).length = l.length then -1 else ((D.hd l).length : Int)
theorem ix_of : ∀ l : List Nat, (∀ b ∈ l, b < 256) -> Lib.indexByte (Lib.bytesOf (l.map fun b : Nat => (b : Int))) 0 = ix l
 | [], _ => rfl
 | a :: l, h => by
  have ih := ix_of l fun b hb => h b (by simp [hb])
  have ha := h a (by simp)
  simp only [List.map_cons, Lib.bytesOf, Lib.indexByte] at ih ⊢
  by_cases e : a = 0
  ·subst e
   simp [ix, D.hd]
  ·have hne : ¬ (UInt8.ofNat (a : Int).toNat == 0) = true := by
    simp
    intro h0
    have := congrArg UInt8.toNat h0
    simp at this
    omega
   have hh : D.hd (a :: l) = a :: D.hd l := by simp [D.hd, e]
   have hx : ix (a :: l) = if (D.hd l).length + 1 = l.length + 1 then -1 else (((D.hd l).length + 1 : Nat) : Int) := by simp only [ix, hh, List.length_cons]
   simp only [ih]
   rw [if_neg hne, hx]
   by_cases h2 : (D.hd l).length = l.length
   ·have e1 : ix l = -1 := by simp only [ix, h2, if_true]
    simp only [e1]
    have h3 : (D.hd l).length + 1 = l.length + 1 := by omega
    rw [if_pos h3]; rfl
   ·have e1 : ix l = ((D.hd l).length : Int) := if_neg h2
    simp only [e1]
    rw [if_neg (by rw [beq_iff_eq]; omega), if_neg (by omega)]
    simp
theorem index_byte (g n c : Nat) (l : List Nat) (z : Int) (w : World) (hr : Row w (some ⟨g, 0, none⟩) n (bys l)) (hl : Kept (∀ b ∈ l, b < 256)) (hz : Kept (ix l = z)) :
  Calls Tryz.prog 141 #[.slice (some ⟨g, 0, none⟩) n c, .int .u8 0] w fun e w' => e = .returned (.int .i64 z) ∧ w = w' := by
 have hlen := hr.len
 rw [bys_len] at hlen
 have hrun := Lib.run_indexByteSlice (P := Tryz.prog) w g 0 n c (l.map fun b : Nat => (b : Int)) (by simpa using hlen) (fun i hi => by
  obtain ⟨b, hb, _⟩ := at_lt (l := l) (i := i) (by omega)
  obtain ⟨ad, e, hc⟩ := hr.cell (bys_at hb)
  injection e with e
  subst e
  rw [Addr.add_lit] at hc
  rw [hc]
  simp [List.getD, hb]) 0
 rw [show (0 : Int).toNat.toUInt8 = 0 from rfl, ix_of l hl.out, hz.out] at hrun
 have HR := Lib.hid hrun
 clear hrun hlen
 go_enter Tryz.func141, Tryz.ntmps141
 go_wp2
 rw [run_callFunc_extern Tryz.func152 (by kernel_rfl) (by kernel_rfl) (by kernel_rfl) (e := Extern.BytealgIndexByte.indexByte) (by kernel_rfl), HR.out]
 simp only [Result.andThen]
 rw [Oper.upon_value]
 go_wp2
 go_ret
 exact ⟨rfl, rfl⟩
theorem index_any (g s n c : Nat) (l : List Nat) (z : Int) (w : World) (hr : Row w (some ⟨g, 0, none⟩) n (bys l)) (hs : w.cell? ⟨s, 0, none⟩ = some (.int .u8 0)) (hl : Kept (∀ b ∈ l, b < 256)) (hz : Kept (ix l = z)) :
  Calls Tryz.prog 132 #[.slice (some ⟨g, 0, none⟩) n c, .slice (some ⟨s, 0, none⟩) 1 1] w fun e w' => e = .returned (.int .i64 z) ∧ w = w' := by
 have H := Lib.hid (index_byte g n c l z w hr hl hz)
 clear hr hl hz
 set_option maxRecDepth 100000 in
 go_enter Tryz.func132, Tryz.ntmps132
 go_wp2_with (go_at_call 141; (with_reducible refine H.out.mono ?_); rintro e w1 ⟨rfl, rfl⟩)
 go_ret
 exact ⟨rfl, rfl⟩

theorem str_run (W : World) (A : Option Addr) (n c : Nat) (l : List Nat) (h : Row W A n (bys l)) (hl : ∀ b ∈ l, b < 256) :
  (convert 90 9 (.slice A n c)).run Tryz.prog W = .ok (.string (D.sb l)) W := by
 have hlen := h.len
 rw [bys_len] at hlen
 rcases A with _ | ad
 ·have : l = [] := by
   rcases Nat.eq_zero_or_pos n with h0 | h0
   ·exact List.eq_nil_of_length_eq_zero (by omega)
   ·obtain ⟨ad, e, _⟩ := h.tow h0
    cases e
  subst this
  have : n = 0 := by simpa using hlen.symm
  subst this
  exact Lib.run_convert_nil_bytes W _ _ 5 c Tryz.underlying90 Tryz.underlying5 Tryz.underlying9
 ·have hr := run_convert_bytes_back (P := Tryz.prog) W 90 9 5 ad c (l.map UInt8.ofNat) Tryz.underlying90 Tryz.underlying5 Tryz.underlying9 (fun j hj => by
   have hj' : j < l.length := by simpa using hj
   have hq : l[j]? = some l[j] := List.getElem?_eq_getElem hj'
   obtain ⟨ad', e, hc⟩ := h.cell (bys_at hq)
   injection e with e
   subst e
   rw [hc]
   have := hl _ (List.getElem_mem hj')
   simp
   omega)
  rw [List.length_map, hlen] at hr
  exact hr
theorem upto_same (A : Option Addr) (n c k : Nat) (hk : k <= c) : ∀ W, (Instr.slice 90 (.slice A n c) none (some (.int .i64 (k : Int))) none).run Tryz.prog W = .ok (.slice A k c) W := by
 intro W
 rw [run_slice_h W 90 A n c (by kernel_rfl) .i64 k (by omega) (by omega)]
 have : ∀ a : Addr, a.add 0 = a := add_zero_
 simp [Result.andThen, sliced, go_sem]
def Cutted (g m : Nat) (w : World) (e : Ending) (w' : World) : Prop := ∃ v b, e = .returned (.tuple #[.slice (some ⟨g, 0, none⟩) m 12, v, .bool b]) ∧ ∃ q, w' = w.drewN q
set_option maxHeartbeats 1000000 in
theorem cut_any (g s m : Nat) (l : List Nat) (w : World) (hr : Row w (some ⟨g, 0, none⟩) 12 (bys l)) (hs : w.cell? ⟨s, 0, none⟩ = some (.int .u8 0)) (hl : Kept (∀ b ∈ l, b < 256)) (hm : Kept ((D.hd l).length = m)) :
  Calls Tryz.prog 124 #[.slice (some ⟨g, 0, none⟩) 12 12, .slice (some ⟨s, 0, none⟩) 1 1] w (Cutted g m w) := by
 have hlen := hr.len
 rw [bys_len] at hlen
 have hle := D.hd_le l
 rw [hm.out, hlen] at hle
 have H := fun z hz => index_any g s 12 12 l z w hr hs hl ⟨hz⟩
 by_cases h12 : m = 12
 ·have H1 := Lib.hid (H (-1) (by rw [ix, if_pos (by rw [hm.out, hlen, h12])]))
  subst h12
  clear H hlen hle hm hr hs
  go_enter Tryz.func124, Tryz.ntmps124
  go_wp2_with (go_at_call 132; (with_reducible refine H1.out.mono ?_); rintro e w1 ⟨rfl, rfl⟩)
  go_ret3
  exact ⟨_, _, rfl, 0, rfl⟩
 ·have H1 := Lib.hid (H (m : Int) (by rw [ix, if_neg (by rw [hm.out, hlen]; exact h12), hm.out]))
  have i1 : (0 : Int) <= (m : Int) := by omega
  have i2 : (m : Int) < 12 := by omega
  have hx : IntKind.i64.wrap ((m : Int) + 1) = ((m + 1 : Nat) : Int) := by rw [IntKind.wrap_i64]; omega
  have hup := upto_same (some ⟨g, 0, none⟩) 12 12 m (by omega)
  obtain ⟨A2, hfr, _⟩ := from_run_b (some ⟨g, 0, none⟩) 12 12 (m + 1) ((m : Int) + 1) (by omega) (by omega)
  clear H hlen hle hm hr hs hx
  go_enter Tryz.func124, Tryz.ntmps124
  go_wp2_with (go_at_call 132; (with_reducible refine H1.out.mono ?_); rintro e w1 ⟨rfl, rfl⟩)
  go_quiet (fail)
  go_wp2
  go_ret3
  exact ⟨_, _, rfl, _, rfl⟩
theorem row_head {w : World} {g m : Nat} {l : List Nat} (h : Row w (some ⟨g, 0, none⟩) 12 (bys l)) (hm : (D.hd l).length = m) (hl : l.length = 12) : Row w (some ⟨g, 0, none⟩) m (bys (D.hd l)) := by
 have hle := D.hd_le l
 have e : D.hd l = l.take m := by
  subst hm
  have h1 := List.takeWhile_append_dropWhile (p := fun b => decide (b ≠ 0)) (l := l)
  have h2 : (D.hd l ++ l.dropWhile fun b => decide (b ≠ 0)).take (D.hd l).length = D.hd l := List.take_left
  rw [show D.hd l ++ l.dropWhile (fun b => decide (b ≠ 0)) = l from h1] at h2
  exact h2.symm
 have := h.take (k := m) (by omega)
 rw [e, <- bys_take]
 exact this
theorem row_name {w : World} {g : Nat} {t : TypeId} {x : D.Nm} (h : Blk w g t (nc x)) : Row w (some ⟨g, 0, none⟩) 12 (bys x.l) := ⟨by rw [bys_len, x.len], fun _ => ⟨_, rfl, h.lt, at_of (rd_blk h)⟩⟩
set_option maxHeartbeats 1000000 in
theorem begin_any (x : D.Nm) (w : World) :
  Calls Tryz.prog 112 #[.agg (nc x)] w fun e w' => e = .returned (.string (D.sb (D.hd x.l))) ∧ Below w.heap.size w w' := by
 obtain ⟨m, hm⟩ : ∃ m, (D.hd x.l).length = m := ⟨_, rfl⟩
 have B0 : Blk ((w.alloc (.cells (nc x) 39)).alloc (.cells #[.int .u8 0] 5)) w.heap.size 39 (nc x) := (Blk.new w _ (nc x)).alloc _
 have B1 := Blk.new (w.alloc (.cells (nc x) 39)) 5 #[.int .u8 0]
 simp only [World.size_alloc] at B1
 have hc := Lib.hid (cut_any w.heap.size (w.heap.size + 1) m x.l _ (row_name B0) B1.cell ⟨x.lt⟩ ⟨hm⟩)
 have hs := Lib.hid (fun q => str_run (((w.alloc (.cells (nc x) 39)).alloc (.cells #[.int .u8 0] 5)).drewN q) (some ⟨w.heap.size, 0, none⟩) m 12 (D.hd x.l) ((row_head (row_name B0) hm x.len).drewN q) (fun b hb => x.lt b (D.hd_mem hb)))
 clear B0 B1 hm
 go_enter Tryz.func112, Tryz.ntmps112
 go_wp2_with (go_at_call 124; (with_reducible refine hc.out.mono ?_); rintro e w1 ⟨v, b, rfl, q, rfl⟩; have hs1 := hs.out q)
 go_ret
 exact ⟨rfl, below_drewN (((Below.refl _ _).alloc (Nat.le_refl _) _).alloc (by simp) _) q⟩

theorem hdp_pad (x : D.Nm) : D.pad (D.sb (D.hd x.l)) = D.hdp x := by
 have := D.ns_sb (l := D.hd x.l) fun b hb => x.lt b (D.hd_mem hb)
 refine D.Nm.eq ?_
 show D.padl (D.ns (D.sb (D.hd x.l))) 12 = D.padl (D.hd x.l) 12
 rw [this]
theorem ns_hd (x : D.Nm) : D.ns (D.sb (D.hd x.l)) = D.hd x.l := D.ns_sb fun b hb => x.lt b (D.hd_mem hb)
set_option maxHeartbeats 1000000 in
theorem right_any (x : D.Nm) (w : World) :
  Calls Tryz.prog 86 #[.agg (nc x)] w fun e w' => e = .returned (.bool (D.right x)) ∧ Below w.heap.size w w' := by
 have hb := begin_any x
 obtain ⟨s, hs⟩ : ∃ s, D.sb (D.hd x.l) = s := ⟨_, rfl⟩
 have hn := ns_hd x
 have hp := hdp_pad x
 rw [hs] at hb hn hp
 have HB := Lib.hid hb
 clear hb
 cases h : D.isB (D.hd x.l)
 ·have HP := Lib.hid (fun w => parse_no s w (by rw [hn, h]))
  have HR := Lib.hid (show false = D.right x by simp [D.right, h])
  clear hs hn hp h
  go_enter Tryz.func86, Tryz.ntmps86
  go_wp2_with (first
   | (go_at_call 112; (with_reducible refine (HB.out _).mono ?_); rintro e w1 ⟨rfl, b1⟩)
   | (go_at_call 71; (with_reducible refine (HP.out _).mono ?_); rintro e w2 ⟨rfl, b2⟩))
  go_ret
  have z1 := b1.size
  have z2 := b2.size
  simp only [World.size_alloc] at z1
  exact ⟨bool_of HR.out, (((below_alloc_ _ _).trans (b1.mono (by simp))).trans (b2.mono (by omega))).alloc (by omega) _⟩
 ·have HP := Lib.hid (fun w => parse_yes s w (by rw [hn, h]))
  have HR := Lib.hid (show sm (D.hdp x) x = D.right x by simp [D.right, h, sm])
  rw [hp] at HP
  clear hs hn hp h
  go_enter Tryz.func86, Tryz.ntmps86
  go_wp2_with (first
   | (go_at_call 112; (with_reducible refine (HB.out _).mono ?_); rintro e w1 ⟨rfl, b1⟩)
   | (go_at_call 71; (with_reducible refine (HP.out _).mono ?_); rintro e w2 ⟨rfl, b2⟩; have f2 := rd_on (rd_on (rd_new w _ 39 x rfl) b1) b2; have z2 : w.heap.size < w2.heap.size := (by have := b1.size; have := b2.size; simp at *; omega)))
  go_ret
  have z1 := b1.size
  simp only [World.size_alloc] at z1
  exact ⟨bool_of HR.out, (((below_alloc_ _ _).trans (b1.mono (by simp))).trans (b2.mono (by omega))).alloc (by omega) _⟩
def ts (x : D.Nm) : ByteArray := D.sb (D.txt x)
set_option maxHeartbeats 1000000 in
theorem text_any (x : D.Nm) (w : World) :
  Calls Tryz.prog 89 #[.agg (nc x)] w fun e w' => e = .returned (.string (ts x)) ∧ Below w.heap.size w w' := by
 have HR := Lib.hid (right_any x)
 have HB := Lib.hid (begin_any x)
 cases h : D.right x
 ·rw [h] at HR
  have HT := Lib.hid (show ByteArray.empty = ts x by rw [ts, D.txt_no h]; rfl)
  clear h
  go_enter Tryz.func89, Tryz.ntmps89
  go_wp2_with (go_at_call 86; (with_reducible refine (HR.out _).mono ?_); rintro e w1 ⟨rfl, b1⟩)
  go_ret
  exact ⟨by rw [<- HT.out]; rfl, (below_alloc_ _ _).trans (b1.mono (by simp))⟩
 ·rw [h] at HR
  have HT := Lib.hid (show D.sb (D.hd x.l) = ts x by rw [ts, D.txt_yes h])
  rw [HT.out] at HB
  clear h
  go_enter Tryz.func89, Tryz.ntmps89
  go_wp2_with (first
   | (go_at_call 86; (with_reducible refine (HR.out _).mono ?_); rintro e w1 ⟨rfl, b1⟩; have f1 := rd_on (rd_new w _ 39 x rfl) b1)
   | (go_at_call 112; (with_reducible refine (HB.out _).mono ?_); rintro e w2 ⟨rfl, b2⟩))
  go_ret
  have z1 := b1.size
  simp only [World.size_alloc] at z1
  exact ⟨rfl, ((below_alloc_ _ _).trans (b1.mono (by simp))).trans (b2.mono (by omega))⟩
end Go.Proofs.YtgnjjlgmlokhmaaGreatDoor.Nm
namespace Go.Proofs.YtgnjjlgmlokhmaaGreatDoor
open Go.RowKit
attribute [local go_sem ↓] Go.wp_at_zero Go.wp_at_succ

structure Knd (w : World) : Prop where
 c0 : w.cell? ⟨0, 0, none⟩ = some (.string ⟨#[]⟩)
 c1 : w.cell? ⟨0, 1, none⟩ = some (.string ⟨#[]⟩)
 c2 : w.cell? ⟨0, 2, none⟩ = some (.string ⟨#[110, 117, 109, 98, 101, 114]⟩)
 c3 : w.cell? ⟨0, 3, none⟩ = some (.string ⟨#[112, 108, 117, 114, 97, 108]⟩)
 c4 : w.cell? ⟨0, 4, none⟩ = some (.string ⟨#[115, 101, 108, 101, 99, 116]⟩)
theorem Knd.on {w w' : World} (h : Knd w) (hb : Below w.heap.size w w') : Knd w' := ⟨cell_kept_ hb h.c0, cell_kept_ hb h.c1, cell_kept_ hb h.c2, cell_kept_ hb h.c3, cell_kept_ hb h.c4⟩
noncomputable def ixk (v i : Value) : Sem Value := Instr.index 148 v i
theorem ix_k (v i : Value) : Instr.index 148 v i = ixk v i := rfl
theorem run_ixk0 (w : World) : (ixk (.agg #[.string ⟨#[]⟩, .string ⟨#[]⟩, .string ⟨#[110, 117, 109, 98, 101, 114]⟩, .string ⟨#[112, 108, 117, 114, 97, 108]⟩, .string ⟨#[115, 101, 108, 101, 99, 116]⟩]) (.int .i64 0)).run Tryz.prog w = .ok (.string ⟨#[]⟩) w := by kernel_rfl
theorem run_ixk1 (w : World) : (ixk (.agg #[.string ⟨#[]⟩, .string ⟨#[]⟩, .string ⟨#[110, 117, 109, 98, 101, 114]⟩, .string ⟨#[112, 108, 117, 114, 97, 108]⟩, .string ⟨#[115, 101, 108, 101, 99, 116]⟩]) (.int .i64 1)).run Tryz.prog w = .ok (.string ⟨#[]⟩) w := by kernel_rfl
theorem run_ixk2 (w : World) : (ixk (.agg #[.string ⟨#[]⟩, .string ⟨#[]⟩, .string ⟨#[110, 117, 109, 98, 101, 114]⟩, .string ⟨#[112, 108, 117, 114, 97, 108]⟩, .string ⟨#[115, 101, 108, 101, 99, 116]⟩]) (.int .i64 2)).run Tryz.prog w = .ok (.string ⟨#[110, 117, 109, 98, 101, 114]⟩) w := by kernel_rfl
theorem run_ixk3 (w : World) : (ixk (.agg #[.string ⟨#[]⟩, .string ⟨#[]⟩, .string ⟨#[110, 117, 109, 98, 101, 114]⟩, .string ⟨#[112, 108, 117, 114, 97, 108]⟩, .string ⟨#[115, 101, 108, 101, 99, 116]⟩]) (.int .i64 3)).run Tryz.prog w = .ok (.string ⟨#[112, 108, 117, 114, 97, 108]⟩) w := by kernel_rfl
theorem run_ixk4 (w : World) : (ixk (.agg #[.string ⟨#[]⟩, .string ⟨#[]⟩, .string ⟨#[110, 117, 109, 98, 101, 114]⟩, .string ⟨#[112, 108, 117, 114, 97, 108]⟩, .string ⟨#[115, 101, 108, 101, 99, 116]⟩]) (.int .i64 4)).run Tryz.prog w = .ok (.string ⟨#[115, 101, 108, 101, 99, 116]⟩) w := by kernel_rfl
attribute [local go_sem ↓] ix_k
attribute [local go_sem] run_ixk0 run_ixk1 run_ixk2 run_ixk3 run_ixk4
theorem kind_eq {t : List Nat} (h : t ≠ []) : D.kndT t = if D.numT = t then 2 else if D.pluT = t then 3 else if D.selT = t then 4 else 0 := by
 unfold D.kndT
 simp only [eq_comm]
set_option maxHeartbeats 4000000 in
theorem kindOf_any (u : ByteArray) (w : World) (hk : Knd w) (h0 : D.ns u ≠ []) : Calls Tryz.prog 74 #[.string u] w fun e w' => e = .returned (.int .i64 (D.kndT (D.ns u) : Nat)) ∧ w = w' := by
 have t0 := txt_u8 [] [] u rfl
 have t2 := txt_u8 [110, 117, 109, 98, 101, 114] D.numT u rfl
 have t3 := txt_u8 [112, 108, 117, 114, 97, 108] D.pluT u rfl
 have t4 := txt_u8 [115, 101, 108, 101, 99, 116] D.selT u rfl
 obtain ⟨t, ht⟩ : ∃ t, D.ns u = t := ⟨_, rfl⟩
 rw [ht] at t0 t2 t3 t4 h0 ⊢
 rw [decide_eq_false (Ne.symm h0)] at t0
 have c0 := hk.c0
 have c1 := hk.c1
 have c2 := hk.c2
 have c3 := hk.c3
 have c4 := hk.c4
 rw [kind_eq h0]
 clear ht h0 hk
 have key : ∀ z : Nat, z < 5 -> (z = 2 -> D.numT = t) -> (z = 3 -> D.numT ≠ t ∧ D.pluT = t) -> (z = 4 -> D.numT ≠ t ∧ D.pluT ≠ t ∧ D.selT = t) -> (z = 1 -> False) -> (z = 0 -> D.numT ≠ t ∧ D.pluT ≠ t ∧ D.selT ≠ t) -> (if D.numT = t then 2 else if D.pluT = t then 3 else if D.selT = t then 4 else 0) = z := by
  intro z hz h2 h3 h4 h1 h0
  obtain rfl | rfl | rfl | rfl | rfl : z = 0 ∨ z = 1 ∨ z = 2 ∨ z = 3 ∨ z = 4 := by omega
  ·obtain ⟨a, b, c⟩ := h0 rfl; rw [if_neg a, if_neg b, if_neg c]
  ·exact (h1 rfl).elim
  ·rw [if_pos (h2 rfl)]
  ·obtain ⟨a, b⟩ := h3 rfl; rw [if_neg a, if_pos b]
  ·obtain ⟨a, b, c⟩ := h4 rfl; rw [if_neg a, if_neg b, if_pos c]
 obtain ⟨Z, hZ⟩ : ∃ Z, (if D.numT = t then 2 else if D.pluT = t then 3 else if D.selT = t then 4 else 0) = Z := ⟨_, rfl⟩
 rw [hZ] at key ⊢
 have KEY := Lib.hid key
 clear key hZ
 go_enter Tryz.func74, Tryz.ntmps74
 go_wp2_with fail
 go_loopw [6] (fun a wr => ∃ k : Nat, k <= 5 ∧ (k = 0 -> a = .int .i64 0) ∧ (k = 1 -> a = .int .i64 1) ∧ (k = 2 -> a = .int .i64 2) ∧ (k = 3 -> a = .int .i64 3) ∧ (k = 4 -> a = .int .i64 4) ∧ (k = 5 -> a = .int .i64 5) ∧ Kept (3 <= k -> D.numT ≠ t) ∧ Kept (4 <= k -> D.pluT ≠ t) ∧ Kept (5 <= k -> D.selT ≠ t) ∧ wr = w) (fun a _ => 5 - (intOf a).toNat)
 case atStart => exact ⟨0, by omega, fun _ => rfl, fun h => by omega, fun h => by omega, fun h => by omega, fun h => by omega, fun h => by omega, ⟨fun h => by omega⟩, ⟨fun h => by omega⟩, ⟨fun h => by omega⟩, rfl⟩
 case round =>
  obtain ⟨k, hk, e0, e1, e2, e3, e4, e5, N2, N3, N4, rfl⟩ := hrel
  obtain rfl | rfl | rfl | rfl | rfl | rfl : k = 0 ∨ k = 1 ∨ k = 2 ∨ k = 3 ∨ k = 4 ∨ k = 5 := by omega
  ·obtain rfl := e0 rfl
   clear e0 e1 e2 e3 e4 e5 t2 t3 t4
   go_wp2
   go_roundw
   case rel => exact ⟨1, by omega, fun h => by omega, fun _ => rfl, fun h => by omega, fun h => by omega, fun h => by omega, fun h => by omega, ⟨fun h => by omega⟩, ⟨fun h => by omega⟩, ⟨fun h => by omega⟩, trivial⟩
   case measure => simp [intOf]
  ·obtain rfl := e1 rfl
   clear e0 e1 e2 e3 e4 e5 t2 t3 t4
   go_wp2
   go_roundw
   case rel => exact ⟨2, by omega, fun h => by omega, fun h => by omega, fun _ => rfl, fun h => by omega, fun h => by omega, fun h => by omega, ⟨fun h => by omega⟩, ⟨fun h => by omega⟩, ⟨fun h => by omega⟩, trivial⟩
   case measure => simp [intOf]
  ·obtain rfl := e2 rfl
   clear e0 e1 e2 e3 e4 e5 t3 t4 t0
   by_cases h : D.numT = t
   ·rw [decide_eq_true h] at t2
    have H := Lib.hid (KEY.out 2 (by omega) (fun _ => h) (fun h => by omega) (fun h => by omega) (fun h => by omega) (fun h => by omega))
    clear h KEY N2 N3 N4
    go_wp2
    go_ret
    exact ⟨ret_of (by rw [H.out]; rfl), rfl⟩
   ·rw [decide_eq_false h] at t2
    have H : Kept (D.numT ≠ t) := ⟨h⟩
    clear h
    go_wp2
    go_roundw
    case rel => exact ⟨3, by omega, fun h => by omega, fun h => by omega, fun h => by omega, fun _ => rfl, fun h => by omega, fun h => by omega, ⟨fun _ => H.out⟩, ⟨fun h => by omega⟩, ⟨fun h => by omega⟩, trivial⟩
    case measure => simp [intOf]
  ·obtain rfl := e3 rfl
   clear e0 e1 e2 e3 e4 e5 t2 t4 t0
   by_cases h : D.pluT = t
   ·rw [decide_eq_true h] at t3
    have H := Lib.hid (KEY.out 3 (by omega) (fun h => by omega) (fun _ => ⟨N2.out (by omega), h⟩) (fun h => by omega) (fun h => by omega) (fun h => by omega))
    clear h KEY N2 N3 N4
    go_wp2
    go_ret
    exact ⟨ret_of (by rw [H.out]; rfl), rfl⟩
   ·rw [decide_eq_false h] at t3
    have H : Kept (D.pluT ≠ t) := ⟨h⟩
    clear h
    go_wp2
    go_roundw
    case rel => exact ⟨4, by omega, fun h => by omega, fun h => by omega, fun h => by omega, fun h => by omega, fun _ => rfl, fun h => by omega, ⟨fun _ => N2.out (by omega)⟩, ⟨fun _ => H.out⟩, ⟨fun h => by omega⟩, trivial⟩
    case measure => simp [intOf]
  ·obtain rfl := e4 rfl
   clear e0 e1 e2 e3 e4 e5 t2 t3 t0
   by_cases h : D.selT = t
   ·rw [decide_eq_true h] at t4
    have H := Lib.hid (KEY.out 4 (by omega) (fun h => by omega) (fun h => by omega) (fun _ => ⟨N2.out (by omega), N3.out (by omega), h⟩) (fun h => by omega) (fun h => by omega))
    clear h KEY N2 N3 N4
    go_wp2
    go_ret
    exact ⟨ret_of (by rw [H.out]; rfl), rfl⟩
   ·rw [decide_eq_false h] at t4
    have H : Kept (D.selT ≠ t) := ⟨h⟩
    clear h
    go_wp2
    go_roundw
    case rel => exact ⟨5, by omega, fun h => by omega, fun h => by omega, fun h => by omega, fun h => by omega, fun h => by omega, fun _ => rfl, ⟨fun _ => N2.out (by omega)⟩, ⟨fun _ => N3.out (by omega)⟩, ⟨fun _ => H.out⟩, trivial⟩
    case measure => simp [intOf]
  ·obtain rfl := e5 rfl
   clear e0 e1 e2 e3 e4 e5 t2 t3 t4 t0
   have H := Lib.hid (KEY.out 0 (by omega) (fun h => by omega) (fun h => by omega) (fun h => by omega) (fun h => by omega) (fun _ => ⟨N2.out (by omega), N3.out (by omega), N4.out (by omega)⟩))
   clear KEY N2 N3 N4
   go_wp2
   go_ret
   exact ⟨ret_of (by rw [H.out]; rfl), rfl⟩
theorem choice_any (k : Nat) (w : World) : Calls Tryz.prog 49 #[.int .i64 (k : Nat)] w fun e w' => e = .returned (.bool (k == 3 || k == 4)) ∧ w = w' := by
 by_cases h3 : k = 3
 ·subst h3
  go_enter Tryz.func49, Tryz.ntmps49
  go_wp2
  go_ret
  exact ⟨rfl, rfl⟩
 ·have i3 : ((k : Int) == 3) = false := by simp; omega
  have n3 : (k == 3) = false := by simpa using h3
  rw [n3]
  clear n3 h3
  by_cases h4 : k = 4
  ·subst h4
   go_enter Tryz.func49, Tryz.ntmps49
   go_wp2
   go_ret
   exact ⟨rfl, rfl⟩
  ·have i4 : ((k : Int) == 4) = false := by simp; omega
   have n4 : (k == 4) = false := by simpa using h4
   rw [n4]
   clear n4 h4
   go_enter Tryz.func49, Tryz.ntmps49
   go_wp2
   go_ret
   exact ⟨rfl, rfl⟩
def D.cwd (k : Nat) (t : List Nat) : Bool := if k = 3 then decide (t ∈ D.catW) else Nm.D.isB t
theorem rda_cat (t : List Nat) : ((D.rda t).2 = 0 ∨ (D.rda t).2 = 15) ∧ (((D.rda t).2 = 0) ↔ t ∈ D.catW) := by
 unfold D.rda
 by_cases h : t ∈ D.catW
 ·obtain ⟨j, hj, e⟩ := List.mem_iff_getElem.1 h
  have hw : D.wrds = D.catW := rfl
  rw [D.rdw_some (k := j) (show j < 6 from hj) (by rw [hw, List.getD, List.getElem?_eq_getElem hj, e]; rfl)]
  exact ⟨.inl rfl, fun _ => h, fun _ => rfl⟩
 ·have hn : ∀ j, j < 6 -> D.wrds.getD j [] ≠ t := by
   intro j hj e
   apply h
   have hw : D.wrds = D.catW := rfl
   rw [hw, List.getD, List.getElem?_eq_getElem (show j < D.catW.length from hj)] at e
   rw [<- e]
   exact List.getElem_mem _
  rw [D.rdw_none hn]
  exact ⟨.inr rfl, ⟨fun hh => absurd (show (15 : Nat) = 0 from hh) (by decide), fun hq => (h hq).elim⟩⟩
theorem parse_not (s : ByteArray) (h : Nm.D.isB (D.ns s) = false) (w : World) : Calls Tryz.prog 71 #[.string s] w fun e w' => e = .returned (.tuple #[.agg (Nm.nc Nm.D.zero), .int .i64 15]) ∧ Below w.heap.size w w' := Nm.parse_no s w h
theorem parse_is (s : ByteArray) (h : Nm.D.isB (D.ns s) = true) (w : World) : Calls Tryz.prog 71 #[.string s] w fun e w' => e = .returned (.tuple #[.agg (Nm.nc (Nm.D.pad s)), .int .i64 0]) ∧ Below w.heap.size w w' := Nm.parse_yes s w h
theorem caseWord_any (k : Nat) (u : ByteArray) (w : World) (hE : Env w) : Calls Tryz.prog 76 #[.int .i64 (k : Nat), .string u] w fun e w' => e = .returned (.bool (D.cwd k (D.ns u))) ∧ Below w.heap.size w w' := by
 by_cases h3 : k = 3
 ·subst h3
  have cR := Lib.hid (fun W (hW : Env W) => read_any u W hW)
  have hr := rda_cat (D.ns u)
  obtain ⟨t, ht⟩ : ∃ t, D.ns u = t := ⟨_, rfl⟩
  rw [ht] at cR hr ⊢
  obtain ⟨a, ha⟩ : ∃ a, D.rda t = a := ⟨_, rfl⟩
  rw [ha] at cR hr
  obtain ⟨x, y⟩ := a
  simp only at cR hr
  obtain ⟨hy, hm⟩ := hr
  have hc : D.cwd 3 t = decide (t ∈ D.catW) := rfl
  rcases hy with rfl | rfl
  ·rw [hc, decide_eq_true (hm.1 rfl)]
   clear hm hc ha ht
   go_enter Tryz.func76, Tryz.ntmps76
   go_wp2_with (go_at_call 104; (with_reducible refine (cR.out _ hE).mono ?_); rintro e w1 ⟨rfl, rfl⟩)
   go_ret
   exact ⟨rfl, Below.refl _ _⟩
  ·rw [hc, decide_eq_false (fun h => by have := hm.2 h; omega)]
   clear hm hc ha ht
   go_enter Tryz.func76, Tryz.ntmps76
   go_wp2_with (go_at_call 104; (with_reducible refine (cR.out _ hE).mono ?_); rintro e w1 ⟨rfl, rfl⟩)
   go_ret
   exact ⟨rfl, Below.refl _ _⟩
 ·have i3 : ((k : Int) == 3) = false := by simp; omega
  have hc : D.cwd k (D.ns u) = Nm.D.isB (D.ns u) := if_neg h3
  rw [hc]
  cases hb : Nm.D.isB (D.ns u) with
  | true =>
   have cP := Lib.hid (fun W => parse_is u hb W)
   clear hc hb h3
   go_enter Tryz.func76, Tryz.ntmps76
   go_wp2_with (go_at_call 71; (with_reducible refine (cP.out _).mono ?_); rintro e w1 ⟨rfl, b1⟩)
   go_ret
   exact ⟨rfl, b1⟩
  | false =>
   have cP := Lib.hid (fun W => parse_not u hb W)
   clear hc hb h3
   go_enter Tryz.func76, Tryz.ntmps76
   go_wp2_with (go_at_call 71; (with_reducible refine (cP.out _).mono ?_); rintro e w1 ⟨rfl, b1⟩)
   go_ret
   exact ⟨rfl, b1⟩
def ccs : List (List Nat × Value) -> List Value
 | [] => []
 | (t, v) :: r => .string (D.sb t) :: v :: ccs r
theorem ccs_app : ∀ (l k : List (List Nat × Value)), ccs (l ++ k) = ccs l ++ ccs k
 | [], k => rfl
 | (t, v) :: l, k => by simp [ccs, ccs_app l k]
theorem ccs_len : ∀ l : List (List Nat × Value), (ccs l).length = l.length * 2
 | [] => rfl
 | (t, v) :: l => by simp [ccs, ccs_len l]; omega
theorem ccs_at : ∀ {l : List (List Nat × Value)} {i : Nat} {t : List Nat} {v : Value}, l[i]? = some (t, v) -> (ccs l)[i * 2]? = some (.string (D.sb t)) ∧ (ccs l)[i * 2 + 1]? = some v
 | [], i, t, v, h => by simp at h
 | (y, c) :: l, 0, t, v, h => by
  simp at h
  obtain ⟨rfl, rfl⟩ := h
  exact ⟨rfl, rfl⟩
 | (y, c) :: l, i + 1, t, v, h => by
  have := ccs_at (l := l) (i := i) (by simpa using h)
  rw [show (i + 1) * 2 = i * 2 + 2 by omega]
  exact this
theorem find1_any (t : List Nat) (v : Value) (h1 : v.oneCell' = true) (q : Nat) (u : ByteArray) (ht : ∀ b ∈ t, b < 256) (w : World) (hq : w.cell? ⟨q, 0, none⟩ = some (.string u)) :
  Calls Tryz.prog 106 #[.agg #[.string (D.sb t), v], vr q] w fun e w' => e = .returned (.bool (decide (t = D.ns u))) ∧ Below w.heap.size w w' := by
 have tt := txt_eq (D.sb t) u
 rw [D.ns_sb ht] at tt
 have hl := World.block_lt_of_cell? w _ hq
 simp only at hl
 obtain ⟨b, hb⟩ : ∃ b, decide (t = D.ns u) = b := ⟨_, rfl⟩
 rw [hb] at tt ⊢
 clear hb
 go_enter Tryz.func106, Tryz.ntmps106
 go_wp2
 go_ret
 exact ⟨rfl, (Below.refl _ _).alloc (Nat.le_refl _) _⟩
theorem indexFunc_any (A : Option Addr) (n c q : Nat) (cs : List (List Nat × Value)) (u : ByteArray) (w : World) (hr : Rw 2 w A n (ccs cs)) (hb : D.B8 (cs.map (·.1))) (h1 : ∀ x ∈ cs, x.2.oneCell' = true) (hn : n <= 1000000) (hq : w.cell? ⟨q, 0, none⟩ = some (.string u)) :
  Calls Tryz.prog 105 #[.slice A n c, .func (.func 106) #[] #[vr q]] w fun e w' => e = .returned (.int .i64 (D.fnd (cs.map (·.1)) (D.ns u))) ∧ Below w.heap.size w w' := by
 have hlen := hr.len
 rw [ccs_len] at hlen
 have hlen : cs.length = n := by omega
 have cF := Lib.hid (fun t v (ht : ∀ b ∈ t, b < 256) (h1 : Value.oneCell' v = true) W hW => find1_any t v h1 q u ht W hW)
 obtain ⟨t, htt⟩ : ∃ t, D.ns u = t := ⟨_, rfl⟩
 rw [htt] at cF ⊢
 have HR := Lib.hid hr
 have HQ := Lib.hid hq
 clear htt hr hq
 go_enter Tryz.func105, Tryz.ntmps105
 go_wp2_with fail
 go_loopw [8] (fun a wr => ∃ k : Nat, k <= n ∧ a = .int .i64 k ∧ Kept (∀ j, j < k -> (cs.map (·.1))[j]? ≠ some t) ∧ Below w.heap.size w wr) (fun a _ => n - (intOf a).toNat)
 case atStart => exact ⟨0, Nat.zero_le _, rfl, ⟨fun j hj => by omega⟩, Below.refl _ _⟩
 case round =>
  obtain ⟨k, hk, rfl, HN, z⟩ := hrel
  have Z := Lib.hid z
  clear z
  by_cases hlt : k < n
  ·obtain ⟨⟨a, v⟩, ha⟩ : ∃ a, cs[k]? = some a := ⟨_, List.getElem?_eq_getElem (by omega)⟩
   have hm : (cs.map (·.1))[k]? = some a := by simp [ha]
   have ha8 := hb a (List.mem_of_getElem? hm)
   have hv1 := h1 _ (List.mem_of_getElem? ha)
   obtain ⟨e0, e1⟩ := ccs_at ha
   have HR' := HR.out.on Z.out
   obtain ⟨ad, rfl, hbk, hc0⟩ := HR'.cell e0
   obtain ⟨ad', ead, _, hc1⟩ := HR'.cell e1
   cases ead
   have hq' := cell_kept_ Z.out HQ.out
   have hI : (k : Int) < n := by omega
   have hc1' : wr.cell? ⟨(ad.add (k * 2)).block, (ad.add (k * 2)).off + 1, none⟩ = some v := by
    rw [<- hc1]
    unfold Addr.add
    by_cases h0 : k * 2 = 0
    ·simp [h0]
    ·simp [h0, Nat.add_assoc]
   have C := Lib.hid (cF.out a v ha8 hv1 wr hq')
   clear HR' e0 e1 hq' hc1 ha8 ha
   by_cases e : a = t
   ·subst e
    rw [decide_eq_true rfl] at C
    have HA := Lib.hid (D.fnd_some hm HN.out)
    clear HN hm hlen hb
    go_wp2_with (go_at_call 106; (with_reducible refine C.out.mono ?_); rintro e w1 ⟨rfl, b1⟩)
    go_ret
    exact ⟨ret_of HA.out.symm, Z.out.trans (b1.mono Z.out.size)⟩
   ·rw [decide_eq_false e] at C
    have HN' : Kept (∀ j, j < k + 1 -> (cs.map (·.1))[j]? ≠ some t) := ⟨fun j hj => by
     obtain h | rfl : j < k ∨ j = k := by omega
     ·exact HN.out j h
     ·rw [hm]; intro h; injection h with h; exact e h⟩
    clear HN hm hb e
    go_wp2_with (go_at_call 106; (with_reducible refine C.out.mono ?_); rintro e w1 ⟨rfl, b1⟩)
    go_roundw
    case rel => exact ⟨k + 1, by omega, by go_num, HN', Z.out.trans (b1.mono Z.out.size)⟩
    case measure => simp [intOf]; omega
  ·obtain rfl : k = n := by omega
   have HA := Lib.hid (D.fnd_none (t := t) (l := cs.map (·.1)) (fun j hj => HN.out j (by simpa [hlen] using hj)))
   clear HN hb
   go_wp2
   go_ret
   exact ⟨ret_of HA.out.symm, Z.out⟩
theorem cfind_any (A : Option Addr) (n c : Nat) (cs : List (List Nat × Value)) (u : ByteArray) (w : World) (hr : Rw 2 w A n (ccs cs)) (hb : D.B8 (cs.map (·.1))) (h1 : ∀ x ∈ cs, x.2.oneCell' = true) (hn : n <= 1000000) :
  Calls Tryz.prog 77 #[.slice A n c, .string u] w fun e w' => e = .returned (.int .i64 (D.fnd (cs.map (·.1)) (D.ns u))) ∧ Below w.heap.size w w' := by
 have cI := Lib.hid (indexFunc_any A n c w.heap.size cs u (w.alloc (.cells #[.string u] 9)) (hr.alloc _) hb h1 hn (by rw [cell_new_at w w.heap.size _ _ rfl]))
 clear hr hb h1
 go_enter Tryz.func77, Tryz.ntmps77
 go_wp2_with (go_at_call 105; (with_reducible refine cI.out.mono ?_); rintro e w1 ⟨rfl, b1⟩)
 go_ret
 exact ⟨rfl, ((Below.refl _ _).alloc (Nat.le_refl _) _).trans (b1.mono (by simp))⟩
end Go.Proofs.YtgnjjlgmlokhmaaGreatDoor
namespace Go.Proofs.YtgnjjlgmlokhmaaGreatDoor
open Go.RowKit
attribute [local go_sem ↓] Go.wp_at_zero Go.wp_at_succ Nm.ld_a Nm.ld_n Nm.st_a Nm.st_n Nm.lv_a Nm.lv_n
attribute [local go_sem] Nm.run_ld_a Nm.run_ld_n Nm.run_lv_a Nm.run_lv_n Nm.rd_new Nm.rd_old Nm.rd_drew Nm.rd_drewN Nm.st_z

def D.nmE (t : List Nat) : Nat := if Nm.D.isB t then 0 else 15
def D.nmV (t : List Nat) : Nm.D.Nm := if Nm.D.isB t then Nm.D.pad (D.sb t) else Nm.D.zero
def D.kdE (d k : Nat) : Nat := if k = 0 then 16 else if (k == 3 || k == 4) && d == 3 then 19 else 0
def D.lgE (k : Nat) (t : List Nat) (ws : List (List Nat)) : Nat := if D.cwd k t = false then 15 else if t ∈ ws then 8 else 0
theorem fr_grown {w w' : World} {b : Nat} (h : w.grownBy w' (some b)) : Fr (· = b) w w' := ⟨h.os, h.tape, h.output, h.size, fun i hi hn => h.block i hi fun e => hn (by injection e)⟩
theorem rw_fr {sz n : Nat} {S : Nat -> Prop} {w w' : World} {A : Option Addr} {xs : List Value} (h : Rw sz w A n xs) (k : Fr S w w') (hS : ∀ ad, A = some ad -> ¬ S ad.block) : Rw sz w' A n xs := ⟨h.len, fun hn => by
 obtain ⟨ad, e, hl, hc⟩ := h.tow hn
 exact ⟨ad, e, Nat.lt_of_lt_of_le hl k.size, fun j u hu => (World.cell?_of_block (w := w) (by rw [block_of_add]; exact k.same _ hl (hS ad e))).trans (hc j u hu)⟩⟩
theorem nameC (b : Nat) (x0 : Nm.D.Nm) (u : ByteArray) (W : World) (hB : Blk W b 39 (Nm.nc x0)) : Calls Tryz.prog 70 #[.string u, vr b] W fun x w' => x = .returned (.int .i64 (D.nmE (D.ns u) : Nat)) ∧ Blk w' b 39 (Nm.nc (D.nmV (D.ns u))) ∧ Fr (· = b) W w' := by
 have HB := Lib.hid hB
 clear hB
 cases hb : Nm.D.isB (D.ns u) with
 | true =>
  have cP := Lib.hid (fun W => parse_is u hb W)
  have e1 : D.nmE (D.ns u) = 0 := by unfold D.nmE; rw [hb]; rfl
  have e2 : D.nmV (D.ns u) = Nm.D.pad u := by unfold D.nmV; rw [hb, D.sb_ns]; rfl
  rw [e1, e2]
  clear e1 e2 hb
  go_enter Tryz.func70, Tryz.ntmps70
  go_wp2_with (go_at_call 71; (with_reducible refine (cP.out _).mono ?_); rintro e w1 ⟨rfl, b1⟩; obtain ⟨w9, hst, B9, hg9⟩ := Nm.st_blk (.inr rfl) (HB.out.on b1) (Nm.nc_size x0) (Nm.D.pad u))
  go_ret
  exact ⟨rfl, B9, (Fr.of_below b1 (Nat.le_refl _)).step (fr_grown hg9)⟩
 | false =>
  have cP := Lib.hid (fun W => parse_not u hb W)
  have e1 : D.nmE (D.ns u) = 15 := by unfold D.nmE; rw [hb]; rfl
  have e2 : D.nmV (D.ns u) = Nm.D.zero := by unfold D.nmV; rw [hb]; rfl
  rw [e1, e2]
  clear e1 e2 hb
  go_enter Tryz.func70, Tryz.ntmps70
  go_wp2_with (go_at_call 71; (with_reducible refine (cP.out _).mono ?_); rintro e w1 ⟨rfl, b1⟩; obtain ⟨w9, hst, B9, hg9⟩ := Nm.st_blk (.inr rfl) (HB.out.on b1) (Nm.nc_size x0) Nm.D.zero)
  go_ret
  exact ⟨rfl, B9, (Fr.of_below b1 (Nat.le_refl _)).step (fr_grown hg9)⟩
theorem kindC (b p d z0 : Nat) (v : Bool) (u : ByteArray) (W : World) (hB : Blk W b 3 #[.int .i64 (z0 : Nat)]) (hP : Blk W p 48 #[.int .i64 (d : Nat), .bool v]) (hne : D.ns u ≠ []) (hK : Knd W) (hd : d <= 3) :
  Calls Tryz.prog 73 #[.string u, vr b, vr p] W fun x w' => x = .returned (.int .i64 (D.kdE d (D.kndT (D.ns u)) : Nat)) ∧ Blk w' b 3 #[.int .i64 (D.kndT (D.ns u) : Nat)] ∧ Fr (· = b) W w' := by
 have cK := Lib.hid (kindOf_any u W hK hne)
 have hk : D.kndT (D.ns u) = 0 ∨ D.kndT (D.ns u) = 2 ∨ D.kndT (D.ns u) = 3 ∨ D.kndT (D.ns u) = 4 := D.knd_cases _
 have hbp : b ≠ p := fun e => by
  subst e
  have := hB.out.symm.trans hP.out
  injection this with this
  injection this with _ h2
  exact absurd h2 (by decide)
 have cc := hB.c_ 0
 have cf := hB.f_
 have p0 := hP.c_ 0
 have BB := Lib.hid (fun k : Nat => hB.put_ 0 (.int .i64 (k : Nat)))
 have cC := Lib.hid (fun k W => choice_any k W)
 have hFr := fun k : Nat => (Fr.refl (· = b) W).setCell ⟨b, 0, none⟩ (.int .i64 (k : Nat)) (fun _ => rfl)
 have HF := Lib.hid hFr
 obtain ⟨k, hkk⟩ : ∃ k, D.kndT (D.ns u) = k := ⟨_, rfl⟩
 rw [hkk] at cK hk ⊢
 clear hB hP hkk hK hne hFr
 have hz : ∀ m : Nat, Blk (W.setCell ⟨b, 0, none⟩ (.int .i64 (m : Nat))) b 3 #[.int .i64 (m : Nat)] := fun m => BB.out m
 have HZ := Lib.hid hz
 clear hz
 rcases hk with rfl | rfl | rfl | rfl
 ·have CC := Lib.hid (cC.out 0)
  go_enter Tryz.func73, Tryz.ntmps73
  go_wp2_with (go_at_call 74; (with_reducible refine cK.out.mono ?_); rintro e w1 ⟨rfl, rfl⟩)
  go_ret
  exact ⟨rfl, HZ.out 0, HF.out 0⟩
 ·have CC : Hid (∀ W, Calls Tryz.prog 49 #[.int .i64 2] W fun e w' => e = .returned (.bool false) ∧ W = w') := Lib.hid (cC.out 2)
  go_enter Tryz.func73, Tryz.ntmps73
  go_wp2_with (first
   | (go_at_call 74; (with_reducible refine cK.out.mono ?_); rintro e w1 ⟨rfl, rfl⟩)
   | (go_at_call 49; (with_reducible refine (CC.out _).mono ?_); rintro e w1 ⟨rfl, rfl⟩))
  go_ret
  exact ⟨rfl, HZ.out 2, HF.out 2⟩
 ·have CC : Hid (∀ W, Calls Tryz.prog 49 #[.int .i64 3] W fun e w' => e = .returned (.bool true) ∧ W = w') := Lib.hid (cC.out 3)
  have hp0 : (W.setCell ⟨b, 0, none⟩ (.int .i64 3)).cell? ⟨p, 0, none⟩ = some (.int .i64 (d : Nat)) := by
   rw [World.cell?_of_block (w := W) (Below.heap_setCell W ⟨b, 0, none⟩ (.int .i64 3) p (Ne.symm hbp))]; exact p0
  by_cases h3 : d = 3
  ·subst h3
   go_enter Tryz.func73, Tryz.ntmps73
   go_wp2_with (first
    | (go_at_call 74; (with_reducible refine cK.out.mono ?_); rintro e w1 ⟨rfl, rfl⟩)
    | (go_at_call 49; (with_reducible refine (CC.out _).mono ?_); rintro e w1 ⟨rfl, rfl⟩))
   go_ret
   exact ⟨rfl, HZ.out 3, HF.out 3⟩
  ·have i3 : ((d : Int) == 3) = false := by simp; omega
   have hE : D.kdE d 3 = 0 := by unfold D.kdE; simp [h3]
   rw [hE]
   clear hE h3
   go_enter Tryz.func73, Tryz.ntmps73
   go_wp2_with (first
    | (go_at_call 74; (with_reducible refine cK.out.mono ?_); rintro e w1 ⟨rfl, rfl⟩)
    | (go_at_call 49; (with_reducible refine (CC.out _).mono ?_); rintro e w1 ⟨rfl, rfl⟩))
   go_ret
   exact ⟨rfl, HZ.out 3, HF.out 3⟩
 ·have CC : Hid (∀ W, Calls Tryz.prog 49 #[.int .i64 4] W fun e w' => e = .returned (.bool true) ∧ W = w') := Lib.hid (cC.out 4)
  have hp0 : (W.setCell ⟨b, 0, none⟩ (.int .i64 4)).cell? ⟨p, 0, none⟩ = some (.int .i64 (d : Nat)) := by
   rw [World.cell?_of_block (w := W) (Below.heap_setCell W ⟨b, 0, none⟩ (.int .i64 4) p (Ne.symm hbp))]; exact p0
  by_cases h3 : d = 3
  ·subst h3
   go_enter Tryz.func73, Tryz.ntmps73
   go_wp2_with (first
    | (go_at_call 74; (with_reducible refine cK.out.mono ?_); rintro e w1 ⟨rfl, rfl⟩)
    | (go_at_call 49; (with_reducible refine (CC.out _).mono ?_); rintro e w1 ⟨rfl, rfl⟩))
   go_ret
   exact ⟨rfl, HZ.out 4, HF.out 4⟩
  ·have i3 : ((d : Int) == 3) = false := by simp; omega
   have hE : D.kdE d 4 = 0 := by unfold D.kdE; simp [h3]
   rw [hE]
   clear hE h3
   go_enter Tryz.func73, Tryz.ntmps73
   go_wp2_with (first
    | (go_at_call 74; (with_reducible refine cK.out.mono ?_); rintro e w1 ⟨rfl, rfl⟩)
    | (go_at_call 49; (with_reducible refine (CC.out _).mono ?_); rintro e w1 ⟨rfl, rfl⟩))
   go_ret
   exact ⟨rfl, HZ.out 4, HF.out 4⟩
theorem caseC (q r k : Nat) (A : Option Addr) (n c : Nat) (cs : List (List Nat × Value)) (u : ByteArray) (W : World) (hq : W.cell? ⟨q, 0, none⟩ = some (.int .i64 (k : Nat))) (hr : W.cell? ⟨r, 0, none⟩ = some (.slice A n c))
  (hR : Rw 2 W A n (ccs cs)) (hb : D.B8 (cs.map (·.1))) (h1 : ∀ x ∈ cs, x.2.oneCell' = true) (hn : n <= 1000000) (hE : Env W) :
  Calls Tryz.prog 75 #[.string u, vr q, vr r] W fun x w' => x = .returned (.int .i64 (D.lgE k (D.ns u) (cs.map (·.1)) : Nat)) ∧ Below W.heap.size W w' := by
 have cW := Lib.hid (caseWord_any k u W hE)
 have cF := Lib.hid (fun W' (hb2 : Below W.heap.size W W') => cfind_any A n c cs u W' (hR.on hb2) hb h1 hn)
 have HR := Lib.hid hr
 obtain ⟨t, ht⟩ : ∃ t, D.ns u = t := ⟨_, rfl⟩
 obtain ⟨ws, hw⟩ : ∃ ws, cs.map (·.1) = ws := ⟨_, rfl⟩
 rw [ht] at cW cF ⊢
 rw [hw] at cF ⊢
 clear ht hw hR hb h1 hE hr
 cases hc : D.cwd k t with
 | false =>
  have hL : D.lgE k t ws = 15 := by unfold D.lgE; rw [if_pos hc]
  rw [hc] at cW
  rw [hL]
  clear hL hc
  go_enter Tryz.func75, Tryz.ntmps75
  go_wp2_with (go_at_call 76; (with_reducible refine cW.out.mono ?_); rintro e w1 ⟨rfl, b1⟩)
  go_ret
  exact ⟨rfl, b1⟩
 | true =>
  rw [hc] at cW
  have hL : D.lgE k t ws = if t ∈ ws then 8 else 0 := by unfold D.lgE; rw [if_neg (by rw [hc]; simp)]
  rw [hL]
  clear hL hc
  by_cases hm : t ∈ ws
  ·have hi : (0 : Int) <= D.fnd ws t := by unfold D.fnd; rw [if_pos hm]; omega
   have h0 : decide ((0 : Int) <= D.fnd ws t) = true := decide_eq_true hi
   rw [if_pos hm]
   obtain ⟨z, hz⟩ : ∃ z, D.fnd ws t = z := ⟨_, rfl⟩
   rw [hz] at hi cF h0
   clear hm hz
   go_enter Tryz.func75, Tryz.ntmps75
   go_wp2_with (first
    | (go_at_call 76; (with_reducible refine cW.out.mono ?_); rintro e w1 ⟨rfl, b1⟩; have hr1 := cell_kept_ b1 HR.out; have B1 := Lib.hid b1; clear b1)
    | (go_at_call 77; (with_reducible refine (cF.out _ B1.out).mono ?_); rintro e w2 ⟨rfl, b2⟩))
   go_ret
   exact ⟨rfl, B1.out.trans (b2.mono B1.out.size)⟩
  ·have hi : ¬ (0 : Int) <= D.fnd ws t := by unfold D.fnd; rw [if_neg hm]; omega
   have h0 : decide ((0 : Int) <= D.fnd ws t) = false := decide_eq_false hi
   have hi' : D.fnd ws t < 0 := by omega
   rw [if_neg hm]
   obtain ⟨z, hz⟩ : ∃ z, D.fnd ws t = z := ⟨_, rfl⟩
   rw [hz] at hi cF h0 hi'
   clear hm hz
   go_enter Tryz.func75, Tryz.ntmps75
   go_wp2_with (first
    | (go_at_call 76; (with_reducible refine cW.out.mono ?_); rintro e w1 ⟨rfl, b1⟩; have hr1 := cell_kept_ b1 HR.out; have B1 := Lib.hid b1; clear b1)
    | (go_at_call 77; (with_reducible refine (cF.out _ B1.out).mono ?_); rintro e w2 ⟨rfl, b2⟩))
   go_ret
   exact ⟨rfl, B1.out.trans (b2.mono B1.out.size)⟩
theorem sub_nil {l : List Nat} {i : Nat} : D.sub l i i = [] := by unfold D.sub; exact List.drop_of_length_le (by simp; omega)
theorem sub_ne {l : List Nat} {i k : Nat} (h : i < k) (hk : k <= l.length) : D.sub l i k ≠ [] := by
 intro e
 have := congrArg List.length e
 unfold D.sub at this
 simp at this
 omega
set_option maxHeartbeats 4000000 in
theorem word_name (s : ByteArray) (g a : Nat) (b : Nat) (x0 : Nm.D.Nm) (w : World) (h : Rdr w g s a 0) (ha : a <= s.size) (hs : s.size <= 1000) (hB : Blk w b 39 (Nm.nc x0)) (hgb : g ≠ b) :
  Calls Tryz.prog 69 #[vr g, .func (.func 70) #[] #[vr b]] w fun x w' => Fr (fun i => i = g ∨ i = b) w w' ∧
   (D.far D.wdB (D.ns s) a = a -> x = .returned (.string ⟨#[]⟩) ∧ Rdr w' g s a 3 ∧ Blk w' b 39 (Nm.nc x0)) ∧
   (D.far D.wdB (D.ns s) a ≠ a -> x = .returned (.string (D.sb (D.sub (D.ns s) a (D.far D.wdB (D.ns s) a)))) ∧ Rdr w' g s (if D.nmE (D.sub (D.ns s) a (D.far D.wdB (D.ns s) a)) = 0 then D.far D.wdB (D.ns s) a else a) (D.nmE (D.sub (D.ns s) a (D.far D.wdB (D.ns s) a))) ∧ Blk w' b 39 (Nm.nc (D.nmV (D.sub (D.ns s) a (D.far D.wdB (D.ns s) a))))) := by
 have hlen := D.ns_len s
 have h256 := ns_lt s
 have cW := while_word s g a 0 w h ha hs
 have cF := fun W e (f : Nat) (z : Int) (hz : z = f) (hW : Rdr W g s e 0) => fail_any s g e 0 a f W hW z hz
 obtain ⟨l, hl⟩ : ∃ l, D.ns s = l := ⟨_, rfl⟩
 rw [hl] at cW hlen h256 ⊢
 rw [show D.wf D.wdB l a 0 = D.far D.wdB l a from if_pos rfl] at cW
 obtain ⟨K, hK0⟩ : ∃ K, D.far D.wdB l a = K := ⟨_, rfl⟩
 have hK1 : a <= K := hK0 ▸ D.far_ge _ _ _
 have hK2 : K <= l.length := hK0 ▸ D.far_le (by rw [hlen]; exact ha)
 rw [hK0] at cW ⊢
 have CW := Lib.hid cW
 have CF := Lib.hid cF
 have c1 := h.c1
 clear cW cF h hl hK0
 by_cases hq0 : K = a
 ·have key : Calls Tryz.prog 69 #[vr g, .func (.func 70) #[] #[vr b]] w fun x w' => x = .returned (.string ⟨#[]⟩) ∧ Rdr w' g s a 3 ∧ Fr (· = g) w w' := by
   subst hq0
   rw [sub_nil] at CW
   obtain ⟨u, hu⟩ : ∃ u : ByteArray, u = ⟨#[]⟩ := ⟨_, rfl⟩
   have tt : (u.toList == []) = true := by rw [hu, ByteArray.toList_eq]; rfl
   have CW' : Hid (Calls Tryz.prog 26 #[vr g, .func (.func 78) #[] #[]] w fun x w' => x = .returned (.string u) ∧ Rdr w' g s K 0 ∧ Fr (· = g) w w') := by rw [hu]; exact CW
   clear CW hu
   go_enter Tryz.func69, Tryz.ntmps69
   go_wp2_with (first
    | (go_at_call 26; (with_reducible refine CW'.out.mono ?_); rintro y w1 ⟨rfl, h1_, f1_⟩; have HR1 := Lib.hid h1_; have HF1 := Lib.hid f1_; clear h1_ f1_)
    | (go_at_call 12; (with_reducible refine (CF.out _ K 3 3 rfl HR1.out).mono ?_); rintro y w2 ⟨rfl, h2, f2⟩))
   go_ret
   exact ⟨rfl, h2, HF1.out.step f2⟩
  exact key.mono fun x w' ⟨e, h2, f1⟩ => ⟨f1.mono (fun i _ e => Or.inl e), fun _ => ⟨e, h2, f1.blk hB (Ne.symm hgb)⟩, fun hne => absurd hq0 hne⟩
 ·have hq1 : a < K := by omega
  have tt : ((D.sb (D.sub l a K)).toList == []) = false := by
   have := txt_eq (D.sb (D.sub l a K)) ⟨#[]⟩
   rw [D.ns_sb (sub_lt h256 a K)] at this
   rw [show (⟨#[]⟩ : ByteArray).toList = [] by rw [ByteArray.toList_eq]] at this
   exact this.trans (decide_eq_false (sub_ne hq1 hK2))
  have hns : D.ns (D.sb (D.sub l a K)) = D.sub l a K := D.ns_sb (sub_lt h256 a K)
  have cC := Lib.hid (fun W (hf : Fr (· = g) w W) => nameC b x0 (D.sb (D.sub l a K)) W (hf.blk hB (Ne.symm hgb)))
  rw [hns] at cC
  obtain ⟨F, hF⟩ : ∃ F, D.nmE (D.sub l a K) = F := ⟨_, rfl⟩
  rw [hF] at cC ⊢
  obtain ⟨E, hE⟩ : ∃ E, (if F = 0 then K else a) = E := ⟨_, rfl⟩
  rw [hE]
  have HE : Kept ((if F = 0 then K else a) = E) := ⟨hE⟩
  clear hE
  have key : Calls Tryz.prog 69 #[vr g, .func (.func 70) #[] #[vr b]] w fun x w' => x = .returned (.string (D.sb (D.sub l a K))) ∧ Kept (Rdr w' g s E F) ∧ Fr (fun i => i = g ∨ i = b) w w' ∧ Blk w' b 39 (Nm.nc (D.nmV (D.sub l a K))) := by
   clear hns hF hq0 hq1
   by_cases h0 : F = 0
   ·subst h0
    go_enter Tryz.func69, Tryz.ntmps69
    go_wp2_with (first
     | (go_at_call 26; (with_reducible refine CW.out.mono ?_); rintro y w1 ⟨rfl, h1_, f1_⟩; have HR1 := Lib.hid h1_; have HF1 := Lib.hid f1_; clear h1_ f1_)
     | (go_at_call 70; (with_reducible refine (cC.out _ HF1.out).mono ?_); rintro y w2 ⟨rfl, B2, f2⟩))
    go_ret
    exact ⟨rfl, ⟨by rw [<- HE.out]; exact HR1.out.fr f2 hgb⟩, (HF1.out.mono (S' := fun i => i = g ∨ i = b) (fun i _ e => Or.inl e)).step (f2.mono fun i _ e => Or.inr e), B2⟩
   ·have hne : ((F : Int) != 0) = true := by simp; omega
    have H0 : Kept (¬ F = 0) := ⟨h0⟩
    clear h0
    go_enter Tryz.func69, Tryz.ntmps69
    go_wp2_with (first
     | (go_at_call 26; (with_reducible refine CW.out.mono ?_); rintro y w1 ⟨rfl, h1_, f1_⟩; have HR1 := Lib.hid h1_; have HF1 := Lib.hid f1_; clear h1_ f1_)
     | (go_at_call 70; (with_reducible refine (cC.out _ HF1.out).mono ?_); rintro y w2 ⟨rfl, B2, f2⟩; have R2 := HR1.out.fr f2 hgb; have HR2 := Lib.hid R2; clear R2)
     | (go_at_call 12; (with_reducible refine (CF.out _ K F F rfl HR2.out).mono ?_); rintro y w3 ⟨rfl, h3, f3⟩))
    go_ret
    exact ⟨rfl, ⟨by rw [<- HE.out, if_neg H0.out]; exact h3⟩, ((HF1.out.mono (S' := fun i => i = g ∨ i = b) (fun i _ e => Or.inl e)).step (f2.mono fun i _ e => Or.inr e)).step (f3.mono fun i _ e => Or.inl e), f3.blk B2 (Ne.symm hgb)⟩
  exact key.mono fun x w' ⟨e, h2, f1, h3⟩ => ⟨f1, fun hh => absurd hh hq0, fun _ => ⟨e, h2.out, h3⟩⟩
set_option maxHeartbeats 4000000 in
theorem word_kind (s : ByteArray) (g a : Nat) (b p d z0 : Nat) (v : Bool) (w : World) (h : Rdr w g s a 0) (ha : a <= s.size) (hs : s.size <= 1000) (hB : Blk w b 3 #[.int .i64 (z0 : Nat)]) (hP : Blk w p 48 #[.int .i64 (d : Nat), .bool v]) (hK : Knd w) (hgb : g ≠ b) (hgp : g ≠ p) (hgk : g ≠ 0) (hd : d <= 3) :
  Calls Tryz.prog 69 #[vr g, .func (.func 73) #[] #[vr b, vr p]] w fun x w' => Fr (fun i => i = g ∨ i = b) w w' ∧
   (D.far D.wdB (D.ns s) a = a -> x = .returned (.string ⟨#[]⟩) ∧ Rdr w' g s a 3 ∧ Blk w' b 3 #[.int .i64 (z0 : Nat)]) ∧
   (D.far D.wdB (D.ns s) a ≠ a -> x = .returned (.string (D.sb (D.sub (D.ns s) a (D.far D.wdB (D.ns s) a)))) ∧ Rdr w' g s (if D.kdE d (D.kndT (D.sub (D.ns s) a (D.far D.wdB (D.ns s) a))) = 0 then D.far D.wdB (D.ns s) a else a) (D.kdE d (D.kndT (D.sub (D.ns s) a (D.far D.wdB (D.ns s) a)))) ∧ Blk w' b 3 #[.int .i64 (D.kndT (D.sub (D.ns s) a (D.far D.wdB (D.ns s) a)) : Nat)]) := by
 have hlen := D.ns_len s
 have h256 := ns_lt s
 have cW := while_word s g a 0 w h ha hs
 have cF := fun W e (f : Nat) (z : Int) (hz : z = f) (hW : Rdr W g s e 0) => fail_any s g e 0 a f W hW z hz
 obtain ⟨l, hl⟩ : ∃ l, D.ns s = l := ⟨_, rfl⟩
 rw [hl] at cW hlen h256 ⊢
 rw [show D.wf D.wdB l a 0 = D.far D.wdB l a from if_pos rfl] at cW
 obtain ⟨K, hK0⟩ : ∃ K, D.far D.wdB l a = K := ⟨_, rfl⟩
 have hK1 : a <= K := hK0 ▸ D.far_ge _ _ _
 have hK2 : K <= l.length := hK0 ▸ D.far_le (by rw [hlen]; exact ha)
 rw [hK0] at cW ⊢
 have CW := Lib.hid cW
 have CF := Lib.hid cF
 have c1 := h.c1
 clear cW cF h hl hK0
 by_cases hq0 : K = a
 ·have key : Calls Tryz.prog 69 #[vr g, .func (.func 73) #[] #[vr b, vr p]] w fun x w' => x = .returned (.string ⟨#[]⟩) ∧ Rdr w' g s a 3 ∧ Fr (· = g) w w' := by
   subst hq0
   rw [sub_nil] at CW
   obtain ⟨u, hu⟩ : ∃ u : ByteArray, u = ⟨#[]⟩ := ⟨_, rfl⟩
   have tt : (u.toList == []) = true := by rw [hu, ByteArray.toList_eq]; rfl
   have CW' : Hid (Calls Tryz.prog 26 #[vr g, .func (.func 78) #[] #[]] w fun x w' => x = .returned (.string u) ∧ Rdr w' g s K 0 ∧ Fr (· = g) w w') := by rw [hu]; exact CW
   clear CW hu
   go_enter Tryz.func69, Tryz.ntmps69
   go_wp2_with (first
    | (go_at_call 26; (with_reducible refine CW'.out.mono ?_); rintro y w1 ⟨rfl, h1_, f1_⟩; have HR1 := Lib.hid h1_; have HF1 := Lib.hid f1_; clear h1_ f1_)
    | (go_at_call 12; (with_reducible refine (CF.out _ K 3 3 rfl HR1.out).mono ?_); rintro y w2 ⟨rfl, h2, f2⟩))
   go_ret
   exact ⟨rfl, h2, HF1.out.step f2⟩
  exact key.mono fun x w' ⟨e, h2, f1⟩ => ⟨f1.mono (fun i _ e => Or.inl e), fun _ => ⟨e, h2, f1.blk hB (Ne.symm hgb)⟩, fun hne => absurd hq0 hne⟩
 ·have hq1 : a < K := by omega
  have tt : ((D.sb (D.sub l a K)).toList == []) = false := by
   have := txt_eq (D.sb (D.sub l a K)) ⟨#[]⟩
   rw [D.ns_sb (sub_lt h256 a K)] at this
   rw [show (⟨#[]⟩ : ByteArray).toList = [] by rw [ByteArray.toList_eq]] at this
   exact this.trans (decide_eq_false (sub_ne hq1 hK2))
  have hns : D.ns (D.sb (D.sub l a K)) = D.sub l a K := D.ns_sb (sub_lt h256 a K)
  have cC := Lib.hid (fun W (hf : Fr (· = g) w W) => kindC b p d z0 v (D.sb (D.sub l a K)) W (hf.blk hB (Ne.symm hgb)) (hf.blk hP (Ne.symm hgp)) (by rw [D.ns_sb (sub_lt h256 a K)]; exact sub_ne (by omega) hK2) ⟨hf.cell hK.c0 (Ne.symm hgk), hf.cell hK.c1 (Ne.symm hgk), hf.cell hK.c2 (Ne.symm hgk), hf.cell hK.c3 (Ne.symm hgk), hf.cell hK.c4 (Ne.symm hgk)⟩ hd)
  rw [hns] at cC
  obtain ⟨F, hF⟩ : ∃ F, D.kdE d (D.kndT (D.sub l a K)) = F := ⟨_, rfl⟩
  rw [hF] at cC ⊢
  obtain ⟨E, hE⟩ : ∃ E, (if F = 0 then K else a) = E := ⟨_, rfl⟩
  rw [hE]
  have HE : Kept ((if F = 0 then K else a) = E) := ⟨hE⟩
  clear hE
  have key : Calls Tryz.prog 69 #[vr g, .func (.func 73) #[] #[vr b, vr p]] w fun x w' => x = .returned (.string (D.sb (D.sub l a K))) ∧ Kept (Rdr w' g s E F) ∧ Fr (fun i => i = g ∨ i = b) w w' ∧ Blk w' b 3 #[.int .i64 (D.kndT (D.sub l a K) : Nat)] := by
   clear hns hF hq0 hq1
   by_cases h0 : F = 0
   ·subst h0
    go_enter Tryz.func69, Tryz.ntmps69
    go_wp2_with (first
     | (go_at_call 26; (with_reducible refine CW.out.mono ?_); rintro y w1 ⟨rfl, h1_, f1_⟩; have HR1 := Lib.hid h1_; have HF1 := Lib.hid f1_; clear h1_ f1_)
     | (go_at_call 73; (with_reducible refine (cC.out _ HF1.out).mono ?_); rintro y w2 ⟨rfl, B2, f2⟩))
    go_ret
    exact ⟨rfl, ⟨by rw [<- HE.out]; exact HR1.out.fr f2 hgb⟩, (HF1.out.mono (S' := fun i => i = g ∨ i = b) (fun i _ e => Or.inl e)).step (f2.mono fun i _ e => Or.inr e), B2⟩
   ·have hne : ((F : Int) != 0) = true := by simp; omega
    have H0 : Kept (¬ F = 0) := ⟨h0⟩
    clear h0
    go_enter Tryz.func69, Tryz.ntmps69
    go_wp2_with (first
     | (go_at_call 26; (with_reducible refine CW.out.mono ?_); rintro y w1 ⟨rfl, h1_, f1_⟩; have HR1 := Lib.hid h1_; have HF1 := Lib.hid f1_; clear h1_ f1_)
     | (go_at_call 73; (with_reducible refine (cC.out _ HF1.out).mono ?_); rintro y w2 ⟨rfl, B2, f2⟩; have R2 := HR1.out.fr f2 hgb; have HR2 := Lib.hid R2; clear R2)
     | (go_at_call 12; (with_reducible refine (CF.out _ K F F rfl HR2.out).mono ?_); rintro y w3 ⟨rfl, h3, f3⟩))
    go_ret
    exact ⟨rfl, ⟨by rw [<- HE.out, if_neg H0.out]; exact h3⟩, ((HF1.out.mono (S' := fun i => i = g ∨ i = b) (fun i _ e => Or.inl e)).step (f2.mono fun i _ e => Or.inr e)).step (f3.mono fun i _ e => Or.inl e), f3.blk B2 (Ne.symm hgb)⟩
  exact key.mono fun x w' ⟨e, h2, f1, h3⟩ => ⟨f1, fun hh => absurd hh hq0, fun _ => ⟨e, h2.out, h3⟩⟩
set_option maxHeartbeats 4000000 in
theorem word_case (s : ByteArray) (g a : Nat) (q r k : Nat) (A : Option Addr) (n c : Nat) (cs : List (List Nat × Value)) (w : World) (h : Rdr w g s a 0) (ha : a <= s.size) (hs : s.size <= 1000) (hq : w.cell? ⟨q, 0, none⟩ = some (.int .i64 (k : Nat))) (hr : w.cell? ⟨r, 0, none⟩ = some (.slice A n c)) (hR : Rw 2 w A n (ccs cs)) (hb : D.B8 (cs.map (·.1))) (h1 : ∀ x ∈ cs, x.2.oneCell' = true) (hn : n <= 1000000) (hE : Env w) (hgq : g ≠ q) (hgr : g ≠ r) (hgA : ∀ ad, A = some ad -> ad.block ≠ g) (hgw : g ≠ 2) :
  Calls Tryz.prog 69 #[vr g, .func (.func 75) #[] #[vr q, vr r]] w fun x w' => Fr (fun i => i = g) w w' ∧
   (D.far D.wdB (D.ns s) a = a -> x = .returned (.string ⟨#[]⟩) ∧ Rdr w' g s a 3 ∧ True) ∧
   (D.far D.wdB (D.ns s) a ≠ a -> x = .returned (.string (D.sb (D.sub (D.ns s) a (D.far D.wdB (D.ns s) a)))) ∧ Rdr w' g s (if D.lgE k (D.sub (D.ns s) a (D.far D.wdB (D.ns s) a)) (cs.map (·.1)) = 0 then D.far D.wdB (D.ns s) a else a) (D.lgE k (D.sub (D.ns s) a (D.far D.wdB (D.ns s) a)) (cs.map (·.1))) ∧ True) := by
 have hlen := D.ns_len s
 have h256 := ns_lt s
 have cW := while_word s g a 0 w h ha hs
 have cF := fun W e (f : Nat) (z : Int) (hz : z = f) (hW : Rdr W g s e 0) => fail_any s g e 0 a f W hW z hz
 obtain ⟨l, hl⟩ : ∃ l, D.ns s = l := ⟨_, rfl⟩
 rw [hl] at cW hlen h256 ⊢
 rw [show D.wf D.wdB l a 0 = D.far D.wdB l a from if_pos rfl] at cW
 obtain ⟨K, hK0⟩ : ∃ K, D.far D.wdB l a = K := ⟨_, rfl⟩
 have hK1 : a <= K := hK0 ▸ D.far_ge _ _ _
 have hK2 : K <= l.length := hK0 ▸ D.far_le (by rw [hlen]; exact ha)
 rw [hK0] at cW ⊢
 have CW := Lib.hid cW
 have CF := Lib.hid cF
 have c1 := h.c1
 clear cW cF h hl hK0
 by_cases hq0 : K = a
 ·have key : Calls Tryz.prog 69 #[vr g, .func (.func 75) #[] #[vr q, vr r]] w fun x w' => x = .returned (.string ⟨#[]⟩) ∧ Rdr w' g s a 3 ∧ Fr (· = g) w w' := by
   subst hq0
   rw [sub_nil] at CW
   obtain ⟨u, hu⟩ : ∃ u : ByteArray, u = ⟨#[]⟩ := ⟨_, rfl⟩
   have tt : (u.toList == []) = true := by rw [hu, ByteArray.toList_eq]; rfl
   have CW' : Hid (Calls Tryz.prog 26 #[vr g, .func (.func 78) #[] #[]] w fun x w' => x = .returned (.string u) ∧ Rdr w' g s K 0 ∧ Fr (· = g) w w') := by rw [hu]; exact CW
   clear CW hu
   go_enter Tryz.func69, Tryz.ntmps69
   go_wp2_with (first
    | (go_at_call 26; (with_reducible refine CW'.out.mono ?_); rintro y w1 ⟨rfl, h1_, f1_⟩; have HR1 := Lib.hid h1_; have HF1 := Lib.hid f1_; clear h1_ f1_)
    | (go_at_call 12; (with_reducible refine (CF.out _ K 3 3 rfl HR1.out).mono ?_); rintro y w2 ⟨rfl, h2, f2⟩))
   go_ret
   exact ⟨rfl, h2, HF1.out.step f2⟩
  exact key.mono fun x w' ⟨e, h2, f1⟩ => ⟨f1.mono (fun i _ e => e), fun _ => ⟨e, h2, trivial⟩, fun hne => absurd hq0 hne⟩
 ·have hq1 : a < K := by omega
  have tt : ((D.sb (D.sub l a K)).toList == []) = false := by
   have := txt_eq (D.sb (D.sub l a K)) ⟨#[]⟩
   rw [D.ns_sb (sub_lt h256 a K)] at this
   rw [show (⟨#[]⟩ : ByteArray).toList = [] by rw [ByteArray.toList_eq]] at this
   exact this.trans (decide_eq_false (sub_ne hq1 hK2))
  have hns : D.ns (D.sb (D.sub l a K)) = D.sub l a K := D.ns_sb (sub_lt h256 a K)
  have cC := Lib.hid (fun W (hf : Fr (· = g) w W) => caseC q r k A n c cs (D.sb (D.sub l a K)) W (hf.cell hq (Ne.symm hgq)) (hf.cell hr (Ne.symm hgr)) (rw_fr hR hf fun ad e => hgA ad e) hb h1 hn ⟨hf.cell hE.c0 (Ne.symm hgw), hf.cell hE.c1 (Ne.symm hgw), hf.cell hE.c2 (Ne.symm hgw), hf.cell hE.c3 (Ne.symm hgw), hf.cell hE.c4 (Ne.symm hgw), hf.cell hE.c5 (Ne.symm hgw)⟩)
  rw [hns] at cC
  obtain ⟨F, hF⟩ : ∃ F, D.lgE k (D.sub l a K) (cs.map (·.1)) = F := ⟨_, rfl⟩
  rw [hF] at cC ⊢
  obtain ⟨E, hE⟩ : ∃ E, (if F = 0 then K else a) = E := ⟨_, rfl⟩
  rw [hE]
  have HE : Kept ((if F = 0 then K else a) = E) := ⟨hE⟩
  clear hE
  have key : Calls Tryz.prog 69 #[vr g, .func (.func 75) #[] #[vr q, vr r]] w fun x w' => x = .returned (.string (D.sb (D.sub l a K))) ∧ Kept (Rdr w' g s E F) ∧ Fr (fun i => i = g) w w' ∧ True := by
   clear hns hF hq0 hq1
   by_cases h0 : F = 0
   ·subst h0
    go_enter Tryz.func69, Tryz.ntmps69
    go_wp2_with (first
     | (go_at_call 26; (with_reducible refine CW.out.mono ?_); rintro y w1 ⟨rfl, h1_, f1_⟩; have HR1 := Lib.hid h1_; have HF1 := Lib.hid f1_; clear h1_ f1_)
     | (go_at_call 75; (with_reducible refine (cC.out _ HF1.out).mono ?_); rintro y w2 ⟨rfl, b2⟩))
    go_ret
    exact ⟨rfl, ⟨by rw [<- HE.out]; exact HR1.out.on b2⟩, (HF1.out.mono (S' := fun i => i = g) (fun i _ e => e)).step (Fr.of_below b2 (Nat.le_refl _)), trivial⟩
   ·have hne : ((F : Int) != 0) = true := by simp; omega
    have H0 : Kept (¬ F = 0) := ⟨h0⟩
    clear h0
    go_enter Tryz.func69, Tryz.ntmps69
    go_wp2_with (first
     | (go_at_call 26; (with_reducible refine CW.out.mono ?_); rintro y w1 ⟨rfl, h1_, f1_⟩; have HR1 := Lib.hid h1_; have HF1 := Lib.hid f1_; clear h1_ f1_)
     | (go_at_call 75; (with_reducible refine (cC.out _ HF1.out).mono ?_); rintro y w2 ⟨rfl, b2⟩; have R2 := HR1.out.on b2; have HR2 := Lib.hid R2; clear R2)
     | (go_at_call 12; (with_reducible refine (CF.out _ K F F rfl HR2.out).mono ?_); rintro y w3 ⟨rfl, h3, f3⟩))
    go_ret
    exact ⟨rfl, ⟨by rw [<- HE.out, if_neg H0.out]; exact h3⟩, ((HF1.out.mono (S' := fun i => i = g) (fun i _ e => e)).step (Fr.of_below b2 (Nat.le_refl _))).step (f3.mono fun i _ e => e), trivial⟩
  exact key.mono fun x w' ⟨e, h2, f1, h3⟩ => ⟨f1, fun hh => absurd hh hq0, fun _ => ⟨e, h2.out, h3⟩⟩
end Go.Proofs.YtgnjjlgmlokhmaaGreatDoor
