/-
  
-/
import Derived.Test.YtjlaffgbmcpldaaGreatDoorG07
import Derived.Deep.DrawnRows
import Derived.Test.YtjlaffgbmcpldaaGreatDoorARow
import Derived.Lib.ConvBytes
import Derived.Deep.RegionHeld3
import Derived.Laws.IdiomStrings
import Derived.Lib.BytesEntry
import Derived.Lib.IndexLaws
import Derived.Laws.BytesString
import Derived.Laws.IdiomElems
import Derived.Lib.BufferRead
import Derived.Test.YtjlaffgbmcpldaaGreatDoorG34
import Derived.Laws.CopyOwn
import Derived.Laws.ResultCell
import Derived.Deep.Light
import Derived.Sort.Grow
set_option linter.unusedVariables false
set_option linter.unusedSimpArgs false
set_option maxRecDepth 100000
namespace Go.Proofs.YtjlaffgbmcpldaaGreatDoor
open Go.RowKit
attribute [local go_sem ↓] Go.wp_at_zero Go.wp_at_succ

def usev (k : Int) : Array Value := #[.int .i64 (D.ats k : Int), .bool (D.nmd k), .bool (D.tgd k)]
theorem isk (k : Int) : (1 ≤ k ∧ k ≤ 6) ↔ k = 1 ∨ k = 2 ∨ k = 3 ∨ k = 4 ∨ k = 5 ∨ k = 6 := by omega
theorem uses_none {k : Int} (h : ¬ (1 ≤ k ∧ k ≤ 6)) : D.ats k = 0 ∧ D.nmd k = false ∧ D.tgd k = false := by
 refine ⟨?_, ?_, ?_⟩
 ·unfold D.ats; rw [if_neg (by omega), if_neg (by omega)]
 ·unfold D.nmd; exact decide_eq_false (by omega)
 ·unfold D.tgd; exact decide_eq_false (by omega)
theorem usev_none {k : Int} (h : ¬ (1 ≤ k ∧ k ≤ 6)) : usev k = #[.int .i64 0, .bool false, .bool false] := by
 obtain ⟨h1, h2, h3⟩ := uses_none h
 unfold usev; rw [h1, h2, h3]; rfl
set_option maxHeartbeats 2000000 in
theorem useOf_any (k : Int) (w : World) : Calls Tryz.prog 145 #[.int .i64 k] w fun e w' => e = .returned (.tuple #[.agg (usev k), .bool (decide (1 ≤ k ∧ k ≤ 6))]) ∧ Below w.heap.size w w' := by
 by_cases h : 1 ≤ k ∧ k ≤ 6
 ·rcases (isk k).1 h with rfl | rfl | rfl | rfl | rfl | rfl
  ·go_enter Tryz.func145, Tryz.ntmps145
   go_wp2
   exact bodyPost_ret (v := .tuple #[.agg #[.int .i64 0, .bool false, .bool false], .bool true]) (by simp [results, Tryz.results145, go_sem, *]) rfl ⟨by rfl, below_alloc_ _ _⟩
  ·go_enter Tryz.func145, Tryz.ntmps145
   go_wp2
   exact bodyPost_ret (v := .tuple #[.agg #[.int .i64 16, .bool false, .bool false], .bool true]) (by simp [results, Tryz.results145, go_sem, *]) rfl ⟨by rfl, below_alloc_ _ _⟩
  ·go_enter Tryz.func145, Tryz.ntmps145
   go_wp2
   exact bodyPost_ret (v := .tuple #[.agg #[.int .i64 0, .bool false, .bool true], .bool true]) (by simp [results, Tryz.results145, go_sem, *]) rfl ⟨by rfl, below_alloc_ _ _⟩
  ·go_enter Tryz.func145, Tryz.ntmps145
   go_wp2
   exact bodyPost_ret (v := .tuple #[.agg #[.int .i64 4, .bool false, .bool false], .bool true]) (by simp [results, Tryz.results145, go_sem, *]) rfl ⟨by rfl, below_alloc_ _ _⟩
  ·go_enter Tryz.func145, Tryz.ntmps145
   go_wp2
   exact bodyPost_ret (v := .tuple #[.agg #[.int .i64 4, .bool true, .bool false], .bool true]) (by simp [results, Tryz.results145, go_sem, *]) rfl ⟨by rfl, below_alloc_ _ _⟩
  ·go_enter Tryz.func145, Tryz.ntmps145
   go_wp2
   exact bodyPost_ret (v := .tuple #[.agg #[.int .i64 4, .bool true, .bool true], .bool true]) (by simp [results, Tryz.results145, go_sem, *]) rfl ⟨by rfl, below_alloc_ _ _⟩
 ·obtain ⟨h1, h2, h3⟩ := uses_none h
  have g1 : ¬ k = 1 := by omega
  have g2 : ¬ k = 2 := by omega
  have g3 : ¬ k = 3 := by omega
  have g4 : ¬ k = 4 := by omega
  have g5 : ¬ k = 5 := by omega
  have g6 : ¬ k = 6 := by omega
  have e : usev k = #[.int .i64 0, .bool false, .bool false] := by unfold usev; rw [h1, h2, h3]; rfl
  rw [e, decide_eq_false h]
  clear e h1 h2 h3 h
  go_enter Tryz.func145, Tryz.ntmps145
  go_wp2
  exact bodyPost_ret (v := .tuple #[.agg #[.int .i64 0, .bool false, .bool false], .bool false]) (by simp [results, Tryz.results145, go_sem, *]) rfl ⟨by rfl, below_alloc_ _ _⟩
theorem below_num (n m : Int) (w : World) : Calls Tryz.prog 146 #[.int .i64 n, .int .i64 m] w fun e w' => e = .returned (.bool (decide (0 ≤ n ∧ n < m))) ∧ w = w' := by
 by_cases h : 0 ≤ n
 ·by_cases h2 : n < m
  ·rw [decide_eq_true ⟨h, h2⟩]
   go_enter Tryz.func146, Tryz.ntmps146
   go_wp2
   go_ret
   exact ⟨by rfl, by rfl⟩
  ·rw [decide_eq_false (by omega)]
   have h3 : m ≤ n := by omega
   go_enter Tryz.func146, Tryz.ntmps146
   go_wp2
   go_ret
   exact ⟨by rfl, by rfl⟩
 ·rw [decide_eq_false (by omega)]
  have h3 : n < 0 := by omega
  go_enter Tryz.func146, Tryz.ntmps146
  go_wp2
  go_ret
  exact ⟨by rfl, by rfl⟩
end Go.Proofs.YtjlaffgbmcpldaaGreatDoor
namespace Go.Proofs.YtjlaffgbmcpldaaGreatDoor.Nm
open Go.RowKit
attribute [local go_sem ↓] Go.wp_at_zero Go.wp_at_succ ld_a ld_n st_a st_n eq_a eq_n ne_a ne_n lv_a lv_n
attribute [local go_sem] run_ld_a run_ld_n run_st_n run_eq_a run_eq_n run_ne_a run_ne_n run_lv_a run_lv_n st_z ne_z rd_new rd_old rd_drew rd_drewN

theorem letter_any (c : Nat) (w : World) : Calls Tryz.prog 191 #[.int .u8 c] w fun e w' => e = .returned (.bool (D.letB c)) ∧ w = w' := by
 go_enter Tryz.func191, Tryz.ntmps191
 go_wp2
 all_goals
  go_ret
  refine ⟨bool_of ?_, rfl⟩
  unfold D.letB
  rw [Bool.eq_iff_iff]
  simp
  omega
theorem may_any (c : Nat) (w : World) : Calls Tryz.prog 192 #[.int .u8 c] w fun e w' => e = .returned (.bool (D.mayB c)) ∧ w = w' := by
 have H := Lib.hid (letter_any c)
 obtain ⟨b, hb⟩ : ∃ b, D.letB c = b := ⟨_, rfl⟩
 rw [hb] at H
 have HB := Lib.hid hb
 clear hb
 cases b
 all_goals
  go_enter Tryz.func192, Tryz.ntmps192
  go_wp2_with (go_at_call 191; (with_reducible refine (H.out _).mono ?_); rintro e w' ⟨rfl, rfl⟩)
  all_goals
   go_ret
   refine ⟨bool_of ?_, rfl⟩
   unfold D.mayB
   rw [HB.out, Bool.eq_iff_iff]
   simp
   try omega

structure Fine (t : List Nat) (k : Nat) : Prop where
 out : ∀ i b, i < k → t[i]? = some b → D.mayB b = true
theorem fine_first (t : List Nat) : Fine t 0 := ⟨fun i b h => absurd h (by omega)⟩
theorem fine_next {t : List Nat} {k b : Nat} (h : Fine t k) (hb : t[k]? = some b) (hm : D.mayB b = true) : Fine t (k + 1) := ⟨fun i c hi hc => by
 by_cases e : i = k
 ·subst e
  rw [hb] at hc
  injection hc with hc
  subst hc
  exact hm
 ·exact h.out i c (by omega) hc⟩
theorem fine_all {t : List Nat} {k : Nat} (h : Fine t k) (hk : t.length ≤ k) (h1 : 1 ≤ t.length) (h2 : t.length ≤ 12) (hl : D.letB (t.getD 0 0) = true) : D.isB t = true :=
 D.isB_iff.2 ⟨h1, h2, hl, fun c hc => by
  obtain ⟨i, hi, e⟩ := List.getElem_of_mem hc
  exact h.out i c (by omega) (by rw [List.getElem?_eq_getElem hi, e])⟩
theorem not_fine {t : List Nat} {k b : Nat} (hb : t[k]? = some b) (hm : D.mayB b = false) : D.isB t = false := by
 cases h : D.isB t
 ·rfl
 ·have := (D.isB_iff.1 h).2.2.2 b (List.mem_of_getElem? hb)
  rw [hm] at this; cases this

theorem row_of_text (w : World) (s : ByteArray) (cap : Nat) (t : TypeId) (fr : Nat × Nat) : Row (w.alloc (.cells (bytesRow s cap) t fr)) (some ⟨w.heap.size, 0, none⟩) s.size (bys (D.ns s)) :=
 ⟨by rw [bys_len, D.ns_len], fun _ => ⟨_, rfl, by simp, fun j u hu => by
  have hj : j < s.data.size := by
   have := (List.getElem?_eq_some_iff.1 hu).1
   rw [bys_len, D.ns_len] at this
   exact this
  rw [World.news_of_block (heap_alloc_new w _) j u]
  rw [Array.getElem?_toList, bytesRow_at s cap j hj]
  simp [bys, D.ns] at hu
  obtain ⟨a, ha, rfl⟩ := hu
  have : s.data[j]? = some s.data[j] := Array.getElem?_eq_getElem hj
  rw [this] at ha
  injection ha with ha
  rw [ha]⟩⟩
theorem ns_at {s : ByteArray} {k : Nat} (h : k < s.size) : (D.ns s)[k]? = some (s[k].toNat) := by
 simp [D.ns]
 exact ⟨s[k], by rw [Array.getElem?_eq_getElem (by exact h)]; rfl, rfl⟩
def pcs (t : List Nat) (k : Nat) : Array Value := (bys (D.padl t k)).toArray
theorem pcs_zero (t : List Nat) : pcs t 0 = z12 := by rw [pcs, D.padl_zero]; rfl
theorem pcs_size (t : List Nat) (k : Nat) : (pcs t k).size = 12 := by simp [pcs, bys_len, D.padl_len]
theorem pcs_next {t : List Nat} {k b : Nat} (hb : t[k]? = some b) (hk : k < 12) : (pcs t k).setIfInBounds k (.int .u8 b) = pcs t (k + 1) := by
 rw [pcs, pcs, ← D.padl_next hb hk, bys, bys, List.setIfInBounds_toArray, List.map_set]
theorem pcs_end (s : ByteArray) (h : s.size ≤ 12) : pcs (D.ns s) s.size = nc (D.pad s) := by
 have := D.padl_all (t := D.ns s) 12 (by rw [D.ns_len]; exact h)
 rw [D.ns_len] at this
 rw [pcs, nc, D.pad, D.padN]
 simp only
 rw [this]

theorem bel_grown {w0 w w' : World} {g : Nat} (h : Below w0.heap.size w0 w) (hg : w.grownBy w' (some g)) (hge : w0.heap.size ≤ g) : Below w0.heap.size w0 w' :=
 h.grown hg h.size fun k hk => by injection hk with hk; omega
set_option maxHeartbeats 1000000 in
theorem parse_yes (s : ByteArray) (w : World) (h : D.isB (D.ns s) = true) :
  Calls Tryz.prog 177 #[.string s] w fun e w' => e = .returned (.tuple #[.agg (nc (D.pad s)), .int .i64 0]) ∧ Below w.heap.size w w' := by
 obtain ⟨h1, h2, h3, h4⟩ := D.isB_iff.1 h
 rw [D.ns_len] at h1 h2
 have hl : D.letB (s[0].toNat) = true := by
  have := ns_at (s := s) (k := 0) (by omega)
  rwa [List.getD, this] at h3
 have H := Lib.hid (fun w => letter_any (s[0].toNat) w)
 rw [hl] at H
 have H4 : Kept (∀ c ∈ D.ns s, D.mayB c = true) := ⟨h4⟩
 clear h3 hl h h4
 have hcv := fun W => run_bytes_of_string (P := Tryz.prog) W 9 210 5 s Tryz.underlying9 Tryz.underlying210 Tryz.underlying5
 have c1 : ((s.size : Int) == 0) = false := by rw [beq_eq_false_iff_ne]; omega
 have c2 : decide ((12 : Int) < (s.size : Int)) = false := decide_eq_false (by omega)
 have c3 : ¬ s = ByteArray.empty := by rintro rfl; simp at h1
 go_enter Tryz.func177, Tryz.ntmps177
 go_wp2_with (go_at_call 191; (with_reducible refine (H.out _).mono ?_); rintro e w' ⟨rfl, rfl⟩)
 clear hcv c1 c2 c3
 go_loopw [25] (fun i wr => ∃ k : Nat, k ≤ s.size ∧ i = .int .i64 k ∧ Blk wr w.heap.size 33 z12 ∧ Blk wr (w.heap.size + 1) 33 (pcs (D.ns s) k) ∧ Row wr (some ⟨w.heap.size + 2, 0, none⟩) s.size (bys (D.ns s)) ∧ Below w.heap.size w wr) (fun i _ => s.size - (intOf i).toNat)
 case atStart =>
  refine ⟨0, Nat.zero_le _, rfl, ?_, ?_, ?_, ?_⟩
  ·exact (((Blk.new w _ z12).alloc _).drew).alloc _
  ·rw [pcs_zero]
   have := Blk.new (w.alloc (.cells z12 33)) 33 z12
   simp only [World.size_alloc] at this
   exact this.drew.alloc _
  ·have := row_of_text ((w.alloc (.cells z12 33)).alloc (.cells z12 33)).drew s
   simp only [World.size_drew, World.size_alloc] at this
   exact this _ _ _
  ·exact ((((Below.refl _ _).alloc (Nat.le_refl _) _).alloc (by simp) _).drew).alloc (by simp; omega) _
 case round =>
  obtain ⟨k, hk, rfl, B0, B1, R, hbel⟩ := hrel
  by_cases hlt : k < s.size
  ·obtain ⟨b, hb, hbm⟩ := at_lt (l := D.ns s) (i := k) (by rw [D.ns_len]; exact hlt)
   have hm := H4.out b hbm
   have HM := Lib.hid (fun w => may_any b w)
   rw [hm] at HM
   obtain ⟨ad, e, cx⟩ := R.cell (bys_at hb)
   injection e with e
   subst e
   have hbn := B1.put k (.int .u8 b)
   rw [pcs_next hb (by omega)] at hbn
   have hcs : ∃ v, wr.cell? ⟨w.heap.size + 1, k, none⟩ = some v := by
    rw [B1.c]
    exact ⟨_, Array.getElem?_eq_getElem (by rw [pcs_size]; omega)⟩
   obtain ⟨v0, hc⟩ := hcs
   have hf := B1.f k
   have hb0 := B0.far (p := ⟨w.heap.size + 1, k, none⟩) (by simp) (.int .u8 b)
   have hR : Row (wr.setCell ⟨w.heap.size + 1, k, none⟩ (.int .u8 b)) (some ⟨w.heap.size + 2, 0, none⟩) s.size (bys (D.ns s)) := by
    refine ⟨R.len, fun hn => ?_⟩
    obtain ⟨ad, e, hl, hc⟩ := R.tow hn
    injection e with e
    subst e
    refine ⟨_, rfl, by simpa [World.setCell] using hl, fun j u hu => ?_⟩
    rw [← hc j u hu]
    exact World.cell?_of_block (w := wr) (by rw [block_of_add]; exact Below.heap_setCell _ _ _ _ (by simp))
   have i1 : (k : Int) < (s.size : Int) := by omega
   have i2 : (k : Int) < 12 := by omega
   simp only [Addr.add_lit, Nat.zero_add] at cx
   clear hb hm B1 R B0
   go_wp2_with (go_at_call 192; (with_reducible refine (HM.out _).mono ?_); rintro e w' ⟨rfl, rfl⟩)
   go_roundw
   case rel => exact ⟨k + 1, by omega, by go_num, hb0, hbn, hR, hbel.setCell (by simp) _⟩
   case measure => simp [intOf]; omega
  ·have e : k = s.size := by omega
   subst e
   rw [pcs_end s h2] at B1
   have hx := rd_blk B1
   obtain ⟨w9, hst, B9, hg9⟩ := st_blk (.inr rfl) B0 rfl (D.pad s)
   have h9 := rd_blk B9
   clear B0 B1 R B9
   go_wp2
   refine bodyPost_ret (v := .tuple #[.agg (nc (D.pad s)), .int .i64 0]) (by rw [results_cell_tmp rfl]; simp [asAddr, Result.andThen, lv_of h9]) rfl ⟨rfl, bel_grown hbel hg9 (Nat.le_refl _)⟩

set_option maxHeartbeats 1000000 in
theorem parse_short (s : ByteArray) (w : World) (h : s.size = 0 ∨ 12 < s.size) :
  Calls Tryz.prog 177 #[.string s] w fun e w' => e = .returned (.tuple #[.agg (nc D.zero), .int .i64 15]) ∧ Below w.heap.size w w' := by
 have B0 : Blk ((w.alloc (.cells z12 33)).alloc (.cells z12 33)) w.heap.size 33 z12 := (Blk.new w _ z12).alloc _
 obtain ⟨w9, hst, B9, hg9⟩ := st_blk (.inr rfl) B0 rfl D.zero
 have h9 := rd_blk B9
 have hb9 := bel_grown (((Below.refl w.heap.size w).alloc (Nat.le_refl _) (.cells z12 33)).alloc (by simp) (.cells z12 33)) hg9 (Nat.le_refl _)
 clear B0 B9 hg9
 rcases h with h | h
 ·obtain rfl : s = ByteArray.empty := ByteArray.ext (Array.eq_empty_of_size_eq_zero h)
  clear h
  go_enter Tryz.func177, Tryz.ntmps177
  go_wp2
  refine bodyPost_ret (v := .tuple #[.agg (nc D.zero), .int .i64 15]) (by rw [results_cell_tmp rfl]; simp [asAddr, Result.andThen, lv_of h9]) rfl ⟨rfl, hb9⟩
 ·have c1 : ((s.size : Int) == 0) = false := by rw [beq_eq_false_iff_ne]; omega
  have c2 : decide ((12 : Int) < (s.size : Int)) = true := decide_eq_true (by omega)
  have c3 : ¬ s = ByteArray.empty := by rintro rfl; simp at h
  go_enter Tryz.func177, Tryz.ntmps177
  go_wp2
  refine bodyPost_ret (v := .tuple #[.agg (nc D.zero), .int .i64 15]) (by rw [results_cell_tmp rfl]; simp [asAddr, Result.andThen, lv_of h9]) rfl ⟨rfl, hb9⟩
set_option maxHeartbeats 1000000 in
theorem parse_first (s : ByteArray) (w : World) (h1 : 1 ≤ s.size) (h2 : s.size ≤ 12) (hl : D.letB (s[0].toNat) = false) :
  Calls Tryz.prog 177 #[.string s] w fun e w' => e = .returned (.tuple #[.agg (nc D.zero), .int .i64 15]) ∧ Below w.heap.size w w' := by
 have B0 : Blk ((w.alloc (.cells z12 33)).alloc (.cells z12 33)) w.heap.size 33 z12 := (Blk.new w _ z12).alloc _
 obtain ⟨w9, hst, B9, hg9⟩ := st_blk (.inr rfl) B0 rfl D.zero
 have h9 := rd_blk B9
 have hb9 := bel_grown (((Below.refl w.heap.size w).alloc (Nat.le_refl _) (.cells z12 33)).alloc (by simp) (.cells z12 33)) hg9 (Nat.le_refl _)
 clear B0 B9 hg9
 have H := Lib.hid (fun w => letter_any (s[0].toNat) w)
 rw [hl] at H
 clear hl
 have c1 : ((s.size : Int) == 0) = false := by rw [beq_eq_false_iff_ne]; omega
 have c2 : decide ((12 : Int) < (s.size : Int)) = false := decide_eq_false (by omega)
 have c3 : ¬ s = ByteArray.empty := by rintro rfl; simp at h1
 go_enter Tryz.func177, Tryz.ntmps177
 go_wp2_with (go_at_call 191; (with_reducible refine (H.out _).mono ?_); rintro e w' ⟨rfl, rfl⟩)
 refine bodyPost_ret (v := .tuple #[.agg (nc D.zero), .int .i64 15]) (by rw [results_cell_tmp rfl]; simp [asAddr, Result.andThen, lv_of h9]) rfl ⟨rfl, hb9⟩
set_option maxHeartbeats 1000000 in
theorem parse_later (s : ByteArray) (w : World) (h1 : 1 ≤ s.size) (h2 : s.size ≤ 12) (hl : D.letB (s[0].toNat) = true) (h4 : Kept (¬ ∀ c ∈ D.ns s, D.mayB c = true)) :
  Calls Tryz.prog 177 #[.string s] w fun e w' => e = .returned (.tuple #[.agg (nc D.zero), .int .i64 15]) ∧ Below w.heap.size w w' := by
 have H := Lib.hid (fun w => letter_any (s[0].toNat) w)
 rw [hl] at H
 clear hl
 have hcv := fun W => run_bytes_of_string (P := Tryz.prog) W 9 210 5 s Tryz.underlying9 Tryz.underlying210 Tryz.underlying5
 have c1 : ((s.size : Int) == 0) = false := by rw [beq_eq_false_iff_ne]; omega
 have c2 : decide ((12 : Int) < (s.size : Int)) = false := decide_eq_false (by omega)
 have c3 : ¬ s = ByteArray.empty := by rintro rfl; simp at h1
 go_enter Tryz.func177, Tryz.ntmps177
 go_wp2_with (go_at_call 191; (with_reducible refine (H.out _).mono ?_); rintro e w' ⟨rfl, rfl⟩)
 clear hcv c1 c2 c3
 go_loopw [25] (fun i wr => ∃ k : Nat, k ≤ s.size ∧ i = .int .i64 k ∧ Blk wr w.heap.size 33 z12 ∧ Blk wr (w.heap.size + 1) 33 (pcs (D.ns s) k) ∧ Row wr (some ⟨w.heap.size + 2, 0, none⟩) s.size (bys (D.ns s)) ∧ Fine (D.ns s) k ∧ Below w.heap.size w wr) (fun i _ => s.size - (intOf i).toNat)
 case atStart =>
  refine ⟨0, Nat.zero_le _, rfl, ?_, ?_, ?_, fine_first _, ?_⟩
  ·exact (((Blk.new w _ z12).alloc _).drew).alloc _
  ·rw [pcs_zero]
   have := Blk.new (w.alloc (.cells z12 33)) 33 z12
   simp only [World.size_alloc] at this
   exact this.drew.alloc _
  ·have := row_of_text ((w.alloc (.cells z12 33)).alloc (.cells z12 33)).drew s
   simp only [World.size_drew, World.size_alloc] at this
   exact this _ _ _
  ·exact ((((Below.refl _ _).alloc (Nat.le_refl _) _).alloc (by simp) _).drew).alloc (by simp; omega) _
 case round =>
  obtain ⟨k, hk, rfl, B0, B1, R, HF, hbel⟩ := hrel
  by_cases hlt : k < s.size
  ·obtain ⟨b, hb, hbm⟩ := at_lt (l := D.ns s) (i := k) (by rw [D.ns_len]; exact hlt)
   obtain ⟨ad, e, cx⟩ := R.cell (bys_at hb)
   injection e with e
   subst e
   simp only [Addr.add_lit, Nat.zero_add] at cx
   have i1 : (k : Int) < (s.size : Int) := by omega
   have i2 : (k : Int) < 12 := by omega
   by_cases hm : D.mayB b = true
   ·have HM := Lib.hid (fun w => may_any b w)
    rw [hm] at HM
    have HN := fine_next HF hb hm
    have hbn := B1.put k (.int .u8 b)
    rw [pcs_next hb (by omega)] at hbn
    have hcs : ∃ v, wr.cell? ⟨w.heap.size + 1, k, none⟩ = some v := by
     rw [B1.c]
     exact ⟨_, Array.getElem?_eq_getElem (by rw [pcs_size]; omega)⟩
    obtain ⟨v0, hc⟩ := hcs
    have hf := B1.f k
    have hb0 := B0.far (p := ⟨w.heap.size + 1, k, none⟩) (by simp) (.int .u8 b)
    have hR : Row (wr.setCell ⟨w.heap.size + 1, k, none⟩ (.int .u8 b)) (some ⟨w.heap.size + 2, 0, none⟩) s.size (bys (D.ns s)) := by
     refine ⟨R.len, fun hn => ?_⟩
     obtain ⟨ad, e, hl, hc⟩ := R.tow hn
     injection e with e
     subst e
     refine ⟨_, rfl, by simpa [World.setCell] using hl, fun j u hu => ?_⟩
     rw [← hc j u hu]
     exact World.cell?_of_block (w := wr) (by rw [block_of_add]; exact Below.heap_setCell _ _ _ _ (by simp))
    clear hb hm B1 R B0
    go_wp2_with (go_at_call 192; (with_reducible refine (HM.out _).mono ?_); rintro e w' ⟨rfl, rfl⟩)
    go_roundw
    case rel => exact ⟨k + 1, by omega, by go_num, hb0, hbn, hR, HN, hbel.setCell (by simp) _⟩
    case measure => simp [intOf]; omega
   ·have hm' : D.mayB b = false := by simpa using hm
    have HM := Lib.hid (fun w => may_any b w)
    rw [hm'] at HM
    obtain ⟨w9, hst, B9, hg9⟩ := st_blk (.inr rfl) B0 rfl D.zero
    have h9 := rd_blk B9
    clear hb hm hm' B1 R B0
    go_wp2_with (go_at_call 192; (with_reducible refine (HM.out _).mono ?_); rintro e w' ⟨rfl, rfl⟩)
    refine bodyPost_ret (v := .tuple #[.agg (nc D.zero), .int .i64 15]) (by rw [results_cell_tmp rfl]; simp [asAddr, Result.andThen, lv_of h9]) rfl ⟨rfl, bel_grown hbel hg9 (Nat.le_refl _)⟩
  ·exact absurd (fun c hc => by
    obtain ⟨i, hi, e⟩ := List.getElem_of_mem hc
    exact HF.out i c (by have := D.ns_len s; omega) (by rw [List.getElem?_eq_getElem hi, e])) h4.out
theorem parse_no (s : ByteArray) (w : World) (h : D.isB (D.ns s) = false) :
  Calls Tryz.prog 177 #[.string s] w fun e w' => e = .returned (.tuple #[.agg (nc D.zero), .int .i64 15]) ∧ Below w.heap.size w w' := by
 by_cases h1 : s.size = 0 ∨ 12 < s.size
 ·exact parse_short s w h1
 ·have h1' : 1 ≤ s.size := by omega
  have h2 : s.size ≤ 12 := by omega
  have h3 : D.letB ((D.ns s).getD 0 0) = D.letB (s[0].toNat) := by
   have := ns_at (s := s) (k := 0) (by omega)
   rw [List.getD, this]; rfl
  cases hl : D.letB (s[0].toNat)
  ·exact parse_first s w h1' h2 hl
  ·exact parse_later s w h1' h2 hl ⟨fun h4 => by
    have : D.isB (D.ns s) = true := D.isB_iff.2 ⟨by rw [D.ns_len]; exact h1', by rw [D.ns_len]; exact h2, by rw [h3, hl], h4⟩
    rw [this] at h; cases h⟩
end Go.Proofs.YtjlaffgbmcpldaaGreatDoor.Nm
namespace Go.Proofs.YtjlaffgbmcpldaaGreatDoor.Nm
open Go.RowKit
attribute [local go_sem ↓] Go.wp_at_zero Go.wp_at_succ ld_a ld_n st_a st_n eq_a eq_n ne_a ne_n lv_a lv_n
attribute [local go_sem] run_ld_a run_ld_n run_st_n run_eq_a run_eq_n run_ne_a run_ne_n run_lv_a run_lv_n st_z ne_z rd_new rd_old rd_drew rd_drewN

def ix (l : List Nat) : Int := if (D.hd l).length = l.length then -1 else ((D.hd l).length : Int)
theorem ix_of : ∀ l : List Nat, (∀ b ∈ l, b < 256) → Lib.indexByte (Lib.bytesOf (l.map fun b : Nat => (b : Int))) 0 = ix l
 | [], _ => rfl
 | a :: l, h => by
  have ih := ix_of l fun b hb => h b (by simp [hb])
  have ha := h a (by simp)
  simp only [List.map_cons, Lib.bytesOf, Lib.indexByte] at ih ⊢
  by_cases e : a = 0
  ·subst e
   simp [ix, D.hd]
  ·have hne : ¬ (UInt8.ofNat (a : Int).toNat == 0) = true := by
    simp
    intro h0
    have := congrArg UInt8.toNat h0
    simp at this
    omega
   have hh : D.hd (a :: l) = a :: D.hd l := by simp [D.hd, e]
   have hx : ix (a :: l) = if (D.hd l).length + 1 = l.length + 1 then -1 else (((D.hd l).length + 1 : Nat) : Int) := by simp only [ix, hh, List.length_cons]
   simp only [ih]
   rw [if_neg hne, hx]
   by_cases h2 : (D.hd l).length = l.length
   ·have e1 : ix l = -1 := by simp only [ix, h2, if_true]
    simp only [e1]
    have h3 : (D.hd l).length + 1 = l.length + 1 := by omega
    rw [if_pos h3]; rfl
   ·have e1 : ix l = ((D.hd l).length : Int) := if_neg h2
    simp only [e1]
    rw [if_neg (by rw [beq_iff_eq]; omega), if_neg (by omega)]
    simp
theorem index_byte (g n c : Nat) (l : List Nat) (z : Int) (w : World) (hr : Row w (some ⟨g, 0, none⟩) n (bys l)) (hl : Kept (∀ b ∈ l, b < 256)) (hz : Kept (ix l = z)) :
  Calls Tryz.prog 220 #[.slice (some ⟨g, 0, none⟩) n c, .int .u8 0] w fun e w' => e = .returned (.int .i64 z) ∧ w = w' := by
 have hlen := hr.len
 rw [bys_len] at hlen
 have hrun := Lib.run_indexByteSlice (P := Tryz.prog) w g 0 n c (l.map fun b : Nat => (b : Int)) (by simpa using hlen) (fun i hi => by
  obtain ⟨b, hb, _⟩ := at_lt (l := l) (i := i) (by omega)
  obtain ⟨ad, e, hc⟩ := hr.cell (bys_at hb)
  injection e with e
  subst e
  rw [Addr.add_lit] at hc
  rw [hc]
  simp [List.getD, hb]) 0
 rw [show (0 : Int).toNat.toUInt8 = 0 from rfl, ix_of l hl.out, hz.out] at hrun
 have HR := Lib.hid hrun
 clear hrun hlen
 go_enter Tryz.func220, Tryz.ntmps220
 go_wp2
 rw [run_callFunc_extern Tryz.func235 (by kernel_rfl) (by kernel_rfl) (by kernel_rfl) (e := Extern.BytealgIndexByte.indexByte) (by kernel_rfl), HR.out]
 simp only [Result.andThen]
 rw [Oper.upon_value]
 go_wp2
 go_ret
 exact ⟨rfl, rfl⟩
theorem index_any (g s n c : Nat) (l : List Nat) (z : Int) (w : World) (hr : Row w (some ⟨g, 0, none⟩) n (bys l)) (hs : w.cell? ⟨s, 0, none⟩ = some (.int .u8 0)) (hl : Kept (∀ b ∈ l, b < 256)) (hz : Kept (ix l = z)) :
  Calls Tryz.prog 206 #[.slice (some ⟨g, 0, none⟩) n c, .slice (some ⟨s, 0, none⟩) 1 1] w fun e w' => e = .returned (.int .i64 z) ∧ w = w' := by
 have H := Lib.hid (index_byte g n c l z w hr hl hz)
 clear hr hl hz
 set_option maxRecDepth 100000 in
 go_enter Tryz.func206, Tryz.ntmps206
 go_wp2_with (go_at_call 220; (with_reducible refine H.out.mono ?_); rintro e w1 ⟨rfl, rfl⟩)
 go_ret
 exact ⟨rfl, rfl⟩

theorem str_run (W : World) (A : Option Addr) (n c : Nat) (l : List Nat) (h : Row W A n (bys l)) (hl : ∀ b ∈ l, b < 256) :
  (convert 210 9 (.slice A n c)).run Tryz.prog W = .ok (.string (D.sb l)) W := by
 have hlen := h.len
 rw [bys_len] at hlen
 rcases A with _ | ad
 ·have : l = [] := by
   rcases Nat.eq_zero_or_pos n with h0 | h0
   ·exact List.eq_nil_of_length_eq_zero (by omega)
   ·obtain ⟨ad, e, _⟩ := h.tow h0
    cases e
  subst this
  have : n = 0 := by simpa using hlen.symm
  subst this
  exact Lib.run_convert_nil_bytes W _ _ 5 c Tryz.underlying210 Tryz.underlying5 Tryz.underlying9
 ·have hr := run_convert_bytes_back (P := Tryz.prog) W 210 9 5 ad c (l.map UInt8.ofNat) Tryz.underlying210 Tryz.underlying5 Tryz.underlying9 (fun j hj => by
   have hj' : j < l.length := by simpa using hj
   have hq : l[j]? = some l[j] := List.getElem?_eq_getElem hj'
   obtain ⟨ad', e, hc⟩ := h.cell (bys_at hq)
   injection e with e
   subst e
   rw [hc]
   have := hl _ (List.getElem_mem hj')
   simp
   omega)
  rw [List.length_map, hlen] at hr
  exact hr
theorem upto_same (A : Option Addr) (n c k : Nat) (hk : k ≤ c) : ∀ W, (Instr.slice 210 (.slice A n c) none (some (.int .i64 (k : Int))) none).run Tryz.prog W = .ok (.slice A k c) W := by
 intro W
 rw [run_slice_h W 210 A n c (by kernel_rfl) .i64 k (by omega) (by omega)]
 have : ∀ a : Addr, a.add 0 = a := add_zero_
 simp [Result.andThen, sliced, go_sem]
def Cutted (g m : Nat) (w : World) (e : Ending) (w' : World) : Prop := ∃ v b, e = .returned (.tuple #[.slice (some ⟨g, 0, none⟩) m 12, v, .bool b]) ∧ ∃ q, w' = w.drewN q
set_option maxHeartbeats 1000000 in
theorem cut_any (g s m : Nat) (l : List Nat) (w : World) (hr : Row w (some ⟨g, 0, none⟩) 12 (bys l)) (hs : w.cell? ⟨s, 0, none⟩ = some (.int .u8 0)) (hl : Kept (∀ b ∈ l, b < 256)) (hm : Kept ((D.hd l).length = m)) :
  Calls Tryz.prog 193 #[.slice (some ⟨g, 0, none⟩) 12 12, .slice (some ⟨s, 0, none⟩) 1 1] w (Cutted g m w) := by
 have hlen := hr.len
 rw [bys_len] at hlen
 have hle := D.hd_le l
 rw [hm.out, hlen] at hle
 have H := fun z hz => index_any g s 12 12 l z w hr hs hl ⟨hz⟩
 by_cases h12 : m = 12
 ·have H1 := Lib.hid (H (-1) (by rw [ix, if_pos (by rw [hm.out, hlen, h12])]))
  subst h12
  clear H hlen hle hm hr hs
  go_enter Tryz.func193, Tryz.ntmps193
  go_wp2_with (go_at_call 206; (with_reducible refine H1.out.mono ?_); rintro e w1 ⟨rfl, rfl⟩)
  go_ret3
  exact ⟨_, _, rfl, 0, rfl⟩
 ·have H1 := Lib.hid (H (m : Int) (by rw [ix, if_neg (by rw [hm.out, hlen]; exact h12), hm.out]))
  have i1 : (0 : Int) ≤ (m : Int) := by omega
  have i2 : (m : Int) < 12 := by omega
  have hx : IntKind.i64.wrap ((m : Int) + 1) = ((m + 1 : Nat) : Int) := by rw [IntKind.wrap_i64]; omega
  have hup := upto_same (some ⟨g, 0, none⟩) 12 12 m (by omega)
  obtain ⟨A2, hfr, _⟩ := from_run_b (some ⟨g, 0, none⟩) 12 12 (m + 1) ((m : Int) + 1) (by omega) (by omega)
  clear H hlen hle hm hr hs hx
  go_enter Tryz.func193, Tryz.ntmps193
  go_wp2_with (go_at_call 206; (with_reducible refine H1.out.mono ?_); rintro e w1 ⟨rfl, rfl⟩)
  go_quiet (fail)
  go_wp2
  go_ret3
  exact ⟨_, _, rfl, _, rfl⟩
theorem row_head {w : World} {g m : Nat} {l : List Nat} (h : Row w (some ⟨g, 0, none⟩) 12 (bys l)) (hm : (D.hd l).length = m) (hl : l.length = 12) : Row w (some ⟨g, 0, none⟩) m (bys (D.hd l)) := by
 have hle := D.hd_le l
 have e : D.hd l = l.take m := by
  subst hm
  have h1 := List.takeWhile_append_dropWhile (p := fun b => decide (b ≠ 0)) (l := l)
  have h2 : (D.hd l ++ l.dropWhile fun b => decide (b ≠ 0)).take (D.hd l).length = D.hd l := List.take_left
  rw [show D.hd l ++ l.dropWhile (fun b => decide (b ≠ 0)) = l from h1] at h2
  exact h2.symm
 have := h.take (k := m) (by omega)
 rw [e, ← bys_take]
 exact this
theorem row_name {w : World} {g : Nat} {t : TypeId} {x : D.Nm} (h : Blk w g t (nc x)) : Row w (some ⟨g, 0, none⟩) 12 (bys x.l) := ⟨by rw [bys_len, x.len], fun _ => ⟨_, rfl, h.lt, at_of (rd_blk h)⟩⟩
set_option maxHeartbeats 1000000 in
theorem begin_any (x : D.Nm) (w : World) :
  Calls Tryz.prog 178 #[.agg (nc x)] w fun e w' => e = .returned (.string (D.sb (D.hd x.l))) ∧ Below w.heap.size w w' := by
 obtain ⟨m, hm⟩ : ∃ m, (D.hd x.l).length = m := ⟨_, rfl⟩
 have B0 : Blk ((w.alloc (.cells (nc x) 33)).alloc (.cells #[.int .u8 0] 5)) w.heap.size 33 (nc x) := (Blk.new w _ (nc x)).alloc _
 have B1 := Blk.new (w.alloc (.cells (nc x) 33)) 5 #[.int .u8 0]
 simp only [World.size_alloc] at B1
 have hc := Lib.hid (cut_any w.heap.size (w.heap.size + 1) m x.l _ (row_name B0) B1.cell ⟨x.lt⟩ ⟨hm⟩)
 have hs := Lib.hid (fun q => str_run (((w.alloc (.cells (nc x) 33)).alloc (.cells #[.int .u8 0] 5)).drewN q) (some ⟨w.heap.size, 0, none⟩) m 12 (D.hd x.l) ((row_head (row_name B0) hm x.len).drewN q) (fun b hb => x.lt b (D.hd_mem hb)))
 clear B0 B1 hm
 go_enter Tryz.func178, Tryz.ntmps178
 go_wp2_with (go_at_call 193; (with_reducible refine hc.out.mono ?_); rintro e w1 ⟨v, b, rfl, q, rfl⟩; have hs1 := hs.out q)
 go_ret
 exact ⟨rfl, below_drewN (((Below.refl _ _).alloc (Nat.le_refl _) _).alloc (by simp) _) q⟩

theorem hdp_pad (x : D.Nm) : D.pad (D.sb (D.hd x.l)) = D.hdp x := by
 have := D.ns_sb (l := D.hd x.l) fun b hb => x.lt b (D.hd_mem hb)
 refine D.Nm.eq ?_
 show D.padl (D.ns (D.sb (D.hd x.l))) 12 = D.padl (D.hd x.l) 12
 rw [this]
theorem ns_hd (x : D.Nm) : D.ns (D.sb (D.hd x.l)) = D.hd x.l := D.ns_sb fun b hb => x.lt b (D.hd_mem hb)
set_option maxHeartbeats 1000000 in
theorem right_any (x : D.Nm) (w : World) :
  Calls Tryz.prog 147 #[.agg (nc x)] w fun e w' => e = .returned (.bool (D.right x)) ∧ Below w.heap.size w w' := by
 have hb := begin_any x
 obtain ⟨s, hs⟩ : ∃ s, D.sb (D.hd x.l) = s := ⟨_, rfl⟩
 have hn := ns_hd x
 have hp := hdp_pad x
 rw [hs] at hb hn hp
 have HB := Lib.hid hb
 clear hb
 cases h : D.isB (D.hd x.l)
 ·have HP := Lib.hid (fun w => parse_no s w (by rw [hn, h]))
  have HR := Lib.hid (show false = D.right x by simp [D.right, h])
  clear hs hn hp h
  go_enter Tryz.func147, Tryz.ntmps147
  go_wp2_with (first
   | (go_at_call 178; (with_reducible refine (HB.out _).mono ?_); rintro e w1 ⟨rfl, b1⟩)
   | (go_at_call 177; (with_reducible refine (HP.out _).mono ?_); rintro e w2 ⟨rfl, b2⟩))
  go_ret
  have z1 := b1.size
  have z2 := b2.size
  simp only [World.size_alloc] at z1
  exact ⟨bool_of HR.out, (((below_alloc_ _ _).trans (b1.mono (by simp))).trans (b2.mono (by omega))).alloc (by omega) _⟩
 ·have HP := Lib.hid (fun w => parse_yes s w (by rw [hn, h]))
  have HR := Lib.hid (show sm (D.hdp x) x = D.right x by simp [D.right, h, sm])
  rw [hp] at HP
  clear hs hn hp h
  go_enter Tryz.func147, Tryz.ntmps147
  go_wp2_with (first
   | (go_at_call 178; (with_reducible refine (HB.out _).mono ?_); rintro e w1 ⟨rfl, b1⟩)
   | (go_at_call 177; (with_reducible refine (HP.out _).mono ?_); rintro e w2 ⟨rfl, b2⟩; have f2 := rd_on (rd_on (rd_new w _ 33 x rfl) b1) b2; have z2 : w.heap.size < w2.heap.size := (by have := b1.size; have := b2.size; simp at *; omega)))
  go_ret
  have z1 := b1.size
  simp only [World.size_alloc] at z1
  exact ⟨bool_of HR.out, (((below_alloc_ _ _).trans (b1.mono (by simp))).trans (b2.mono (by omega))).alloc (by omega) _⟩
def ts (x : D.Nm) : ByteArray := D.sb (D.txt x)
end Go.Proofs.YtjlaffgbmcpldaaGreatDoor.Nm
namespace Go.Proofs.YtjlaffgbmcpldaaGreatDoor
open Go.RowKit
attribute [local go_sem ↓] Go.wp_at_zero Go.wp_at_succ ld_k lv_k st_k eq_k ne_k bd_k Nm.ld_a Nm.ld_n Nm.st_a Nm.st_n ld_a ld_n st_a st_n eq_a eq_n ne_a ne_n lv_a lv_n
attribute [local go_sem] run_ldk run_lvk run_stk run_eqk run_nek run_bdk_z Nm.run_ld_a Nm.run_ld_n Nm.run_st_n Nm.rd_new Nm.rd_old Nm.rd_drew Nm.rd_drewN run_ld_a run_ld_n run_sw_a run_sw_n run_eq_a run_eq_n run_ne_a run_ne_n run_lv_a run_lv_n st_z ne_z eq_z rd_new rd_old rd_drew rd_drewN Shp.rd_new Shp.rd_old Shp.rd_drew Shp.rd_drewN Shp.tn_new Shp.tn_old Shp.tn_drew Shp.tn_drewN setRow_alloc run_stn3 run_stt15

theorem lvk_of {w : World} {g : Nat} {x : D.Ky} (h : kS.rd w ⟨g, 0, none⟩ = some x) : (loadVar 39 ⟨g, 0, none⟩).run Tryz.prog w = .ok (.agg (kS.v x)) w := (run_lvk w ⟨g, 0, none⟩).trans (by rw [h]; rfl)

set_option maxHeartbeats 4000000 in
theorem kof_none (cT : ∀ (x : D.Tg) (w : World), Calls Tryz.prog 148 #[.agg (nc x)] w fun e w' => e = .returned (.bool (D.right x)) ∧ Below w.heap.size w w') (k : Int) (hk : ¬ (1 ≤ k ∧ k ≤ 6)) (p : Int) (a : Int) (n : Nm.D.Nm) (t : D.Tg) (w : World) :
  Calls Tryz.prog 116 #[.int .i64 k, .int .i64 p, .int .i64 a, .agg (Nm.nc n), .agg (nc t)] w fun e w' => e = .returned (.tuple #[.agg (kS.v D.zK), .int .i64 16]) ∧ Below w.heap.size w w' := by
 obtain ⟨W0, hW0⟩ : ∃ W, ((w.alloc (.cells (Nm.nc n) 33)).alloc (.cells (nc t) 37)).alloc (.cells z25 39) = W := ⟨_, rfl⟩
 have f0 : Nm.rd W0 ⟨w.heap.size, 0, none⟩ = some n := by rw [← hW0]; exact Nm.rd_on (Nm.rd_on (Nm.rd_new w _ _ n rfl) (below_alloc_ _ _)) (below_alloc_ _ _)
 have g0 : rd W0 ⟨w.heap.size + 1, 0, none⟩ = some t := by rw [← hW0]; exact rd_on (rd_new _ _ _ t (by simp)) (below_alloc_ _ _)
 have k0 : Shp.tn 25 W0 (w.heap.size + 2) = true := by rw [← hW0]; exact Shp.tn_new _ _ _ _ _ (by simp) rfl
 have s0 : w.heap.size + 2 < W0.heap.size := by rw [← hW0]; simp
 have z0 : Below w.heap.size w W0 := by rw [← hW0]; exact (((Below.refl _ _).alloc (Nat.le_refl _) _).alloc (by simp) _).alloc (by simp; omega) _
 have CU := Lib.hid (fun w => (show Calls Tryz.prog 145 #[.int .i64 k] w fun e w' => e = .returned (.tuple #[.agg #[.int .i64 0, .bool false, .bool false], .bool false]) ∧ Below w.heap.size w w' from by have := useOf_any k w; rwa [decide_eq_false hk, usev_none hk] at this))
 clear cT hk
 go_enter Tryz.func116, Tryz.ntmps116
 unfold z25 at hW0
 go_wp2_with fail
 try rw [hW0]
 clear hW0
 go_wp2_with (go_at_call 145; (with_reducible refine (CU.out _).mono ?_); rintro e w1 ⟨rfl, b1⟩; have k0 := Shp.tn_on k0 b1; have s1 := Nat.lt_of_lt_of_le s0 b1.size; have z1 := below_up z0 z0.size b1; have f0 := Nm.rd_on f0 b1; have g0 := rd_on g0 b1)
 have hset := Shp.rd_set (S := kS) (w1.alloc (.cells #[.int .i64 0, .bool false, .bool false] 268)) (w.heap.size + 2) D.zK (Shp.tn_on k0 (below_alloc_ _ _))
 have z9 := below_setRow (z1.alloc z1.size (.cells #[.int .i64 0, .bool false, .bool false] 268)) (g := w.heap.size + 2) (by omega) (kS.v D.zK)
 exact bodyPost_ret (v := .tuple #[.agg (kS.v D.zK), .int .i64 16]) (by rw [results_cell_tmp rfl]; simp [asAddr, Result.andThen, lvk_of hset]) rfl ⟨rfl, z9⟩

set_option maxHeartbeats 4000000 in
theorem kof_p1 (cT : ∀ (x : D.Tg) (w : World), Calls Tryz.prog 148 #[.agg (nc x)] w fun e w' => e = .returned (.bool (D.right x)) ∧ Below w.heap.size w w') (p : Int) (hp : ¬ (0 ≤ p ∧ p < 4)) (a : Int) (n : Nm.D.Nm) (t : D.Tg) (w : World) :
  Calls Tryz.prog 116 #[.int .i64 1, .int .i64 p, .int .i64 a, .agg (Nm.nc n), .agg (nc t)] w fun e w' => e = .returned (.tuple #[.agg (kS.v D.zK), .int .i64 5]) ∧ Below w.heap.size w w' := by
 obtain ⟨W0, hW0⟩ : ∃ W, ((w.alloc (.cells (Nm.nc n) 33)).alloc (.cells (nc t) 37)).alloc (.cells z25 39) = W := ⟨_, rfl⟩
 have f0 : Nm.rd W0 ⟨w.heap.size, 0, none⟩ = some n := by rw [← hW0]; exact Nm.rd_on (Nm.rd_on (Nm.rd_new w _ _ n rfl) (below_alloc_ _ _)) (below_alloc_ _ _)
 have g0 : rd W0 ⟨w.heap.size + 1, 0, none⟩ = some t := by rw [← hW0]; exact rd_on (rd_new _ _ _ t (by simp)) (below_alloc_ _ _)
 have k0 : Shp.tn 25 W0 (w.heap.size + 2) = true := by rw [← hW0]; exact Shp.tn_new _ _ _ _ _ (by simp) rfl
 have s0 : w.heap.size + 2 < W0.heap.size := by rw [← hW0]; simp
 have z0 : Below w.heap.size w W0 := by rw [← hW0]; exact (((Below.refl _ _).alloc (Nat.le_refl _) _).alloc (by simp) _).alloc (by simp; omega) _
 have CU := Lib.hid (fun w => (show Calls Tryz.prog 145 #[.int .i64 1] w fun e w' => e = .returned (.tuple #[.agg #[.int .i64 0, .bool false, .bool false], .bool true]) ∧ Below w.heap.size w w' from useOf_any 1 w))
 have CP := Lib.hid (fun w => (show Calls Tryz.prog 146 #[.int .i64 p, .int .i64 4] w fun e w' => e = .returned (.bool false) ∧ w = w' from by have := below_num p 4 w; rwa [decide_eq_false (by omega)] at this))
 clear cT hp
 go_enter Tryz.func116, Tryz.ntmps116
 unfold z25 at hW0
 go_wp2_with fail
 try rw [hW0]
 clear hW0
 go_wp2_with (go_at_call 145; (with_reducible refine (CU.out _).mono ?_); rintro e w1 ⟨rfl, b1⟩; have k0 := Shp.tn_on k0 b1; have s1 := Nat.lt_of_lt_of_le s0 b1.size; have z1 := below_up z0 z0.size b1; have f0 := Nm.rd_on f0 b1; have g0 := rd_on g0 b1)
 obtain ⟨W1, hW1⟩ : ∃ W, w1.alloc (.cells #[.int .i64 0, .bool false, .bool false] 268) = W := ⟨_, rfl⟩
 have B1 := Blk.new w1 268 #[.int .i64 0, .bool false, .bool false]
 have k1 := Shp.tn_on k0 (below_alloc_ w1 (.cells #[.int .i64 0, .bool false, .bool false] 268))
 have f1 := Nm.rd_on f0 (below_alloc_ w1 (.cells #[.int .i64 0, .bool false, .bool false] 268))
 have g1 := rd_on g0 (below_alloc_ w1 (.cells #[.int .i64 0, .bool false, .bool false] 268))
 have z1' := z1.alloc z1.size (.cells #[.int .i64 0, .bool false, .bool false] 268)
 have s1' : w1.heap.size < (w1.alloc (.cells #[.int .i64 0, .bool false, .bool false] 268)).heap.size := by simp
 rw [hW1] at B1 k1 f1 g1 z1' s1'
 rw [hW1]
 clear hW1 k0 f0 g0 z1 s0 z0
 obtain ⟨m, hm⟩ : ∃ m, w1.heap.size = m := ⟨_, rfl⟩
 rw [hm] at B1 s1 s1'
 rw [hm]
 clear hm b1
 have q1 : w.heap.size + 2 < W1.heap.size := by omega
 have r1 : w.heap.size + 1 < W1.heap.size := by omega
 have t1 : w.heap.size < W1.heap.size := by omega
 have u0 := B1.c 0
 have u1 := B1.c 1
 have u2 := B1.c 2
 simp at u0 u1 u2
 go_wp2_with (first
  | (go_at_call 146; (with_reducible refine (CP.out _).mono ?_); rintro e w2 ⟨rfl, rfl⟩))
 have hset := Shp.rd_set (S := kS) W1 (w.heap.size + 2) D.zK k1
 have z9 := below_setRow z1' (g := w.heap.size + 2) (by omega) (kS.v D.zK)
 exact bodyPost_ret (v := .tuple #[.agg (kS.v D.zK), .int .i64 5]) (by rw [results_cell_tmp rfl]; simp [asAddr, Result.andThen, lvk_of hset]) rfl ⟨rfl, z9⟩

set_option maxHeartbeats 4000000 in
theorem kof_ok1 (cT : ∀ (x : D.Tg) (w : World), Calls Tryz.prog 148 #[.agg (nc x)] w fun e w' => e = .returned (.bool (D.right x)) ∧ Below w.heap.size w w') (q : Nat) (hp : q < 4) (a : Int) (n : Nm.D.Nm) (t : D.Tg) (w : World) :
  Calls Tryz.prog 116 #[.int .i64 1, .int .i64 (q : Int), .int .i64 a, .agg (Nm.nc n), .agg (nc t)] w fun e w' => e = .returned (.tuple #[.agg (kS.v (D.mkK 1 q 0 Nm.D.zero D.zero)), .int .i64 0]) ∧ Below w.heap.size w w' := by
 obtain ⟨W0, hW0⟩ : ∃ W, ((w.alloc (.cells (Nm.nc n) 33)).alloc (.cells (nc t) 37)).alloc (.cells z25 39) = W := ⟨_, rfl⟩
 have f0 : Nm.rd W0 ⟨w.heap.size, 0, none⟩ = some n := by rw [← hW0]; exact Nm.rd_on (Nm.rd_on (Nm.rd_new w _ _ n rfl) (below_alloc_ _ _)) (below_alloc_ _ _)
 have g0 : rd W0 ⟨w.heap.size + 1, 0, none⟩ = some t := by rw [← hW0]; exact rd_on (rd_new _ _ _ t (by simp)) (below_alloc_ _ _)
 have k0 : Shp.tn 25 W0 (w.heap.size + 2) = true := by rw [← hW0]; exact Shp.tn_new _ _ _ _ _ (by simp) rfl
 have s0 : w.heap.size + 2 < W0.heap.size := by rw [← hW0]; simp
 have z0 : Below w.heap.size w W0 := by rw [← hW0]; exact (((Below.refl _ _).alloc (Nat.le_refl _) _).alloc (by simp) _).alloc (by simp; omega) _
 have CU := Lib.hid (fun w => (show Calls Tryz.prog 145 #[.int .i64 1] w fun e w' => e = .returned (.tuple #[.agg #[.int .i64 0, .bool false, .bool false], .bool true]) ∧ Below w.heap.size w w' from useOf_any 1 w))
 have CP := Lib.hid (fun w => (show Calls Tryz.prog 146 #[.int .i64 (q : Int), .int .i64 4] w fun e w' => e = .returned (.bool true) ∧ w = w' from by have := below_num (q : Int) 4 w; rwa [decide_eq_true (by omega)] at this))
 have hb : ∀ W, (bdk #[(0, .int .u8 1), (1, .int .u8 (q : Int))]).run Tryz.prog W = .ok (.agg (kS.v (D.mkK 1 q 0 Nm.D.zero D.zero))) W := fun W => run_bdk_2 W 1 q (by omega) (by omega)
 have hq : q % 256 = q := Nat.mod_eq_of_lt (by omega)
 have hqi : (q : Int) % 256 = q := by omega
 clear cT hp
 go_enter Tryz.func116, Tryz.ntmps116
 unfold z25 at hW0
 go_wp2_with fail
 try rw [hW0]
 clear hW0
 go_wp2_with (go_at_call 145; (with_reducible refine (CU.out _).mono ?_); rintro e w1 ⟨rfl, b1⟩; have k0 := Shp.tn_on k0 b1; have s1 := Nat.lt_of_lt_of_le s0 b1.size; have z1 := below_up z0 z0.size b1; have f0 := Nm.rd_on f0 b1; have g0 := rd_on g0 b1)
 obtain ⟨W1, hW1⟩ : ∃ W, w1.alloc (.cells #[.int .i64 0, .bool false, .bool false] 268) = W := ⟨_, rfl⟩
 have B1 := Blk.new w1 268 #[.int .i64 0, .bool false, .bool false]
 have k1 := Shp.tn_on k0 (below_alloc_ w1 (.cells #[.int .i64 0, .bool false, .bool false] 268))
 have f1 := Nm.rd_on f0 (below_alloc_ w1 (.cells #[.int .i64 0, .bool false, .bool false] 268))
 have g1 := rd_on g0 (below_alloc_ w1 (.cells #[.int .i64 0, .bool false, .bool false] 268))
 have z1' := z1.alloc z1.size (.cells #[.int .i64 0, .bool false, .bool false] 268)
 have s1' : w1.heap.size < (w1.alloc (.cells #[.int .i64 0, .bool false, .bool false] 268)).heap.size := by simp
 rw [hW1] at B1 k1 f1 g1 z1' s1'
 rw [hW1]
 clear hW1 k0 f0 g0 z1 s0 z0
 obtain ⟨m, hm⟩ : ∃ m, w1.heap.size = m := ⟨_, rfl⟩
 rw [hm] at B1 s1 s1'
 rw [hm]
 clear hm b1
 have q1 : w.heap.size + 2 < W1.heap.size := by omega
 have r1 : w.heap.size + 1 < W1.heap.size := by omega
 have t1 : w.heap.size < W1.heap.size := by omega
 have u0 := B1.c 0
 have u1 := B1.c 1
 have u2 := B1.c 2
 simp at u0 u1 u2
 go_wp2_with (first
  | (go_at_call 146; (with_reducible refine (CP.out _).mono ?_); rintro e w2 ⟨rfl, rfl⟩))
 have hset := Shp.rd_set (S := kS) (W1.alloc (.cells (kS.v (D.mkK 1 q 0 Nm.D.zero D.zero)) 39)) (w.heap.size + 2) (D.mkK 1 q 0 Nm.D.zero D.zero) (Shp.tn_on k1 (below_alloc_ _ _))
 have z9 := below_setRow (z1'.alloc z1'.size (.cells (kS.v (D.mkK 1 q 0 Nm.D.zero D.zero)) 39)) (g := w.heap.size + 2) (by omega) (kS.v (D.mkK 1 q 0 Nm.D.zero D.zero))
 exact bodyPost_ret (v := .tuple #[.agg (kS.v (D.mkK 1 q 0 Nm.D.zero D.zero)), .int .i64 0]) (by rw [results_cell_tmp rfl]; simp [asAddr, Result.andThen, lvk_of hset]) rfl ⟨rfl, z9⟩

set_option maxHeartbeats 4000000 in
theorem kof_p2 (cT : ∀ (x : D.Tg) (w : World), Calls Tryz.prog 148 #[.agg (nc x)] w fun e w' => e = .returned (.bool (D.right x)) ∧ Below w.heap.size w w') (p : Int) (hp : ¬ (0 ≤ p ∧ p < 4)) (a : Int) (n : Nm.D.Nm) (t : D.Tg) (w : World) :
  Calls Tryz.prog 116 #[.int .i64 2, .int .i64 p, .int .i64 a, .agg (Nm.nc n), .agg (nc t)] w fun e w' => e = .returned (.tuple #[.agg (kS.v D.zK), .int .i64 5]) ∧ Below w.heap.size w w' := by
 obtain ⟨W0, hW0⟩ : ∃ W, ((w.alloc (.cells (Nm.nc n) 33)).alloc (.cells (nc t) 37)).alloc (.cells z25 39) = W := ⟨_, rfl⟩
 have f0 : Nm.rd W0 ⟨w.heap.size, 0, none⟩ = some n := by rw [← hW0]; exact Nm.rd_on (Nm.rd_on (Nm.rd_new w _ _ n rfl) (below_alloc_ _ _)) (below_alloc_ _ _)
 have g0 : rd W0 ⟨w.heap.size + 1, 0, none⟩ = some t := by rw [← hW0]; exact rd_on (rd_new _ _ _ t (by simp)) (below_alloc_ _ _)
 have k0 : Shp.tn 25 W0 (w.heap.size + 2) = true := by rw [← hW0]; exact Shp.tn_new _ _ _ _ _ (by simp) rfl
 have s0 : w.heap.size + 2 < W0.heap.size := by rw [← hW0]; simp
 have z0 : Below w.heap.size w W0 := by rw [← hW0]; exact (((Below.refl _ _).alloc (Nat.le_refl _) _).alloc (by simp) _).alloc (by simp; omega) _
 have CU := Lib.hid (fun w => (show Calls Tryz.prog 145 #[.int .i64 2] w fun e w' => e = .returned (.tuple #[.agg #[.int .i64 16, .bool false, .bool false], .bool true]) ∧ Below w.heap.size w w' from useOf_any 2 w))
 have CP := Lib.hid (fun w => (show Calls Tryz.prog 146 #[.int .i64 p, .int .i64 4] w fun e w' => e = .returned (.bool false) ∧ w = w' from by have := below_num p 4 w; rwa [decide_eq_false (by omega)] at this))
 clear cT hp
 go_enter Tryz.func116, Tryz.ntmps116
 unfold z25 at hW0
 go_wp2_with fail
 try rw [hW0]
 clear hW0
 go_wp2_with (go_at_call 145; (with_reducible refine (CU.out _).mono ?_); rintro e w1 ⟨rfl, b1⟩; have k0 := Shp.tn_on k0 b1; have s1 := Nat.lt_of_lt_of_le s0 b1.size; have z1 := below_up z0 z0.size b1; have f0 := Nm.rd_on f0 b1; have g0 := rd_on g0 b1)
 obtain ⟨W1, hW1⟩ : ∃ W, w1.alloc (.cells #[.int .i64 16, .bool false, .bool false] 268) = W := ⟨_, rfl⟩
 have B1 := Blk.new w1 268 #[.int .i64 16, .bool false, .bool false]
 have k1 := Shp.tn_on k0 (below_alloc_ w1 (.cells #[.int .i64 16, .bool false, .bool false] 268))
 have f1 := Nm.rd_on f0 (below_alloc_ w1 (.cells #[.int .i64 16, .bool false, .bool false] 268))
 have g1 := rd_on g0 (below_alloc_ w1 (.cells #[.int .i64 16, .bool false, .bool false] 268))
 have z1' := z1.alloc z1.size (.cells #[.int .i64 16, .bool false, .bool false] 268)
 have s1' : w1.heap.size < (w1.alloc (.cells #[.int .i64 16, .bool false, .bool false] 268)).heap.size := by simp
 rw [hW1] at B1 k1 f1 g1 z1' s1'
 rw [hW1]
 clear hW1 k0 f0 g0 z1 s0 z0
 obtain ⟨m, hm⟩ : ∃ m, w1.heap.size = m := ⟨_, rfl⟩
 rw [hm] at B1 s1 s1'
 rw [hm]
 clear hm b1
 have q1 : w.heap.size + 2 < W1.heap.size := by omega
 have r1 : w.heap.size + 1 < W1.heap.size := by omega
 have t1 : w.heap.size < W1.heap.size := by omega
 have u0 := B1.c 0
 have u1 := B1.c 1
 have u2 := B1.c 2
 simp at u0 u1 u2
 go_wp2_with (first
  | (go_at_call 146; (with_reducible refine (CP.out _).mono ?_); rintro e w2 ⟨rfl, rfl⟩))
 have hset := Shp.rd_set (S := kS) W1 (w.heap.size + 2) D.zK k1
 have z9 := below_setRow z1' (g := w.heap.size + 2) (by omega) (kS.v D.zK)
 exact bodyPost_ret (v := .tuple #[.agg (kS.v D.zK), .int .i64 5]) (by rw [results_cell_tmp rfl]; simp [asAddr, Result.andThen, lvk_of hset]) rfl ⟨rfl, z9⟩

set_option maxHeartbeats 4000000 in
theorem kof_a2 (cT : ∀ (x : D.Tg) (w : World), Calls Tryz.prog 148 #[.agg (nc x)] w fun e w' => e = .returned (.bool (D.right x)) ∧ Below w.heap.size w w') (q : Nat) (hp : q < 4) (a : Int) (ha : ¬ (0 ≤ a ∧ a < 16)) (n : Nm.D.Nm) (t : D.Tg) (w : World) :
  Calls Tryz.prog 116 #[.int .i64 2, .int .i64 (q : Int), .int .i64 a, .agg (Nm.nc n), .agg (nc t)] w fun e w' => e = .returned (.tuple #[.agg (kS.v D.zK), .int .i64 5]) ∧ Below w.heap.size w w' := by
 obtain ⟨W0, hW0⟩ : ∃ W, ((w.alloc (.cells (Nm.nc n) 33)).alloc (.cells (nc t) 37)).alloc (.cells z25 39) = W := ⟨_, rfl⟩
 have f0 : Nm.rd W0 ⟨w.heap.size, 0, none⟩ = some n := by rw [← hW0]; exact Nm.rd_on (Nm.rd_on (Nm.rd_new w _ _ n rfl) (below_alloc_ _ _)) (below_alloc_ _ _)
 have g0 : rd W0 ⟨w.heap.size + 1, 0, none⟩ = some t := by rw [← hW0]; exact rd_on (rd_new _ _ _ t (by simp)) (below_alloc_ _ _)
 have k0 : Shp.tn 25 W0 (w.heap.size + 2) = true := by rw [← hW0]; exact Shp.tn_new _ _ _ _ _ (by simp) rfl
 have s0 : w.heap.size + 2 < W0.heap.size := by rw [← hW0]; simp
 have z0 : Below w.heap.size w W0 := by rw [← hW0]; exact (((Below.refl _ _).alloc (Nat.le_refl _) _).alloc (by simp) _).alloc (by simp; omega) _
 have CU := Lib.hid (fun w => (show Calls Tryz.prog 145 #[.int .i64 2] w fun e w' => e = .returned (.tuple #[.agg #[.int .i64 16, .bool false, .bool false], .bool true]) ∧ Below w.heap.size w w' from useOf_any 2 w))
 have CP := Lib.hid (fun w => (show Calls Tryz.prog 146 #[.int .i64 (q : Int), .int .i64 4] w fun e w' => e = .returned (.bool true) ∧ w = w' from by have := below_num (q : Int) 4 w; rwa [decide_eq_true (by omega)] at this))
 have CA := Lib.hid (fun w => (show Calls Tryz.prog 146 #[.int .i64 a, .int .i64 16] w fun e w' => e = .returned (.bool false) ∧ w = w' from by have := below_num a 16 w; rwa [decide_eq_false (by omega)] at this))
 have hb : ∀ W, (bdk #[(0, .int .u8 2), (1, .int .u8 (q : Int))]).run Tryz.prog W = .ok (.agg (kS.v (D.mkK 2 q 0 Nm.D.zero D.zero))) W := fun W => run_bdk_2 W 2 q (by omega) (by omega)
 have hq : q % 256 = q := Nat.mod_eq_of_lt (by omega)
 have hqi : (q : Int) % 256 = q := by omega
 clear cT hp ha
 go_enter Tryz.func116, Tryz.ntmps116
 unfold z25 at hW0
 go_wp2_with fail
 try rw [hW0]
 clear hW0
 go_wp2_with (go_at_call 145; (with_reducible refine (CU.out _).mono ?_); rintro e w1 ⟨rfl, b1⟩; have k0 := Shp.tn_on k0 b1; have s1 := Nat.lt_of_lt_of_le s0 b1.size; have z1 := below_up z0 z0.size b1; have f0 := Nm.rd_on f0 b1; have g0 := rd_on g0 b1)
 obtain ⟨W1, hW1⟩ : ∃ W, w1.alloc (.cells #[.int .i64 16, .bool false, .bool false] 268) = W := ⟨_, rfl⟩
 have B1 := Blk.new w1 268 #[.int .i64 16, .bool false, .bool false]
 have k1 := Shp.tn_on k0 (below_alloc_ w1 (.cells #[.int .i64 16, .bool false, .bool false] 268))
 have f1 := Nm.rd_on f0 (below_alloc_ w1 (.cells #[.int .i64 16, .bool false, .bool false] 268))
 have g1 := rd_on g0 (below_alloc_ w1 (.cells #[.int .i64 16, .bool false, .bool false] 268))
 have z1' := z1.alloc z1.size (.cells #[.int .i64 16, .bool false, .bool false] 268)
 have s1' : w1.heap.size < (w1.alloc (.cells #[.int .i64 16, .bool false, .bool false] 268)).heap.size := by simp
 rw [hW1] at B1 k1 f1 g1 z1' s1'
 rw [hW1]
 clear hW1 k0 f0 g0 z1 s0 z0
 obtain ⟨m, hm⟩ : ∃ m, w1.heap.size = m := ⟨_, rfl⟩
 rw [hm] at B1 s1 s1'
 rw [hm]
 clear hm b1
 have q1 : w.heap.size + 2 < W1.heap.size := by omega
 have r1 : w.heap.size + 1 < W1.heap.size := by omega
 have t1 : w.heap.size < W1.heap.size := by omega
 have u0 := B1.c 0
 have u1 := B1.c 1
 have u2 := B1.c 2
 simp at u0 u1 u2
 go_wp2_with (first
  | (go_at_call 146; (with_reducible refine (CP.out _).mono ?_); rintro e w2 ⟨rfl, rfl⟩)
  | (go_at_call 146; (with_reducible refine (CA.out _).mono ?_); rintro e w3 ⟨rfl, rfl⟩))
 have hset := Shp.rd_set (S := kS) W1 (w.heap.size + 2) D.zK k1
 have z9 := below_setRow z1' (g := w.heap.size + 2) (by omega) (kS.v D.zK)
 exact bodyPost_ret (v := .tuple #[.agg (kS.v D.zK), .int .i64 5]) (by rw [results_cell_tmp rfl]; simp [asAddr, Result.andThen, lvk_of hset]) rfl ⟨rfl, z9⟩

set_option maxHeartbeats 4000000 in
theorem kof_ok2 (cT : ∀ (x : D.Tg) (w : World), Calls Tryz.prog 148 #[.agg (nc x)] w fun e w' => e = .returned (.bool (D.right x)) ∧ Below w.heap.size w w') (q : Nat) (hp : q < 4) (b : Nat) (ha : b < 16) (n : Nm.D.Nm) (t : D.Tg) (w : World) :
  Calls Tryz.prog 116 #[.int .i64 2, .int .i64 (q : Int), .int .i64 (b : Int), .agg (Nm.nc n), .agg (nc t)] w fun e w' => e = .returned (.tuple #[.agg (kS.v (D.mkK 2 q b Nm.D.zero D.zero)), .int .i64 0]) ∧ Below w.heap.size w w' := by
 obtain ⟨W0, hW0⟩ : ∃ W, ((w.alloc (.cells (Nm.nc n) 33)).alloc (.cells (nc t) 37)).alloc (.cells z25 39) = W := ⟨_, rfl⟩
 have f0 : Nm.rd W0 ⟨w.heap.size, 0, none⟩ = some n := by rw [← hW0]; exact Nm.rd_on (Nm.rd_on (Nm.rd_new w _ _ n rfl) (below_alloc_ _ _)) (below_alloc_ _ _)
 have g0 : rd W0 ⟨w.heap.size + 1, 0, none⟩ = some t := by rw [← hW0]; exact rd_on (rd_new _ _ _ t (by simp)) (below_alloc_ _ _)
 have k0 : Shp.tn 25 W0 (w.heap.size + 2) = true := by rw [← hW0]; exact Shp.tn_new _ _ _ _ _ (by simp) rfl
 have s0 : w.heap.size + 2 < W0.heap.size := by rw [← hW0]; simp
 have z0 : Below w.heap.size w W0 := by rw [← hW0]; exact (((Below.refl _ _).alloc (Nat.le_refl _) _).alloc (by simp) _).alloc (by simp; omega) _
 have CU := Lib.hid (fun w => (show Calls Tryz.prog 145 #[.int .i64 2] w fun e w' => e = .returned (.tuple #[.agg #[.int .i64 16, .bool false, .bool false], .bool true]) ∧ Below w.heap.size w w' from useOf_any 2 w))
 have CP := Lib.hid (fun w => (show Calls Tryz.prog 146 #[.int .i64 (q : Int), .int .i64 4] w fun e w' => e = .returned (.bool true) ∧ w = w' from by have := below_num (q : Int) 4 w; rwa [decide_eq_true (by omega)] at this))
 have CA := Lib.hid (fun w => (show Calls Tryz.prog 146 #[.int .i64 (b : Int), .int .i64 16] w fun e w' => e = .returned (.bool true) ∧ w = w' from by have := below_num (b : Int) 16 w; rwa [decide_eq_true (by omega)] at this))
 have hb : ∀ W, (bdk #[(0, .int .u8 2), (1, .int .u8 (q : Int))]).run Tryz.prog W = .ok (.agg (kS.v (D.mkK 2 q 0 Nm.D.zero D.zero))) W := fun W => run_bdk_2 W 2 q (by omega) (by omega)
 have hq : q % 256 = q := Nat.mod_eq_of_lt (by omega)
 have hqi : (q : Int) % 256 = q := by omega
 have hbi : (b : Int) % 256 = b := by omega
 have hs := fun (n : Nm.D.Nm) (t : D.Tg) => kset_a 2 q 0 n t b (by omega)
 clear cT hp ha
 go_enter Tryz.func116, Tryz.ntmps116
 unfold z25 at hW0
 go_wp2_with fail
 try rw [hW0]
 clear hW0
 go_wp2_with (go_at_call 145; (with_reducible refine (CU.out _).mono ?_); rintro e w1 ⟨rfl, b1⟩; have k0 := Shp.tn_on k0 b1; have s1 := Nat.lt_of_lt_of_le s0 b1.size; have z1 := below_up z0 z0.size b1; have f0 := Nm.rd_on f0 b1; have g0 := rd_on g0 b1)
 obtain ⟨W1, hW1⟩ : ∃ W, w1.alloc (.cells #[.int .i64 16, .bool false, .bool false] 268) = W := ⟨_, rfl⟩
 have B1 := Blk.new w1 268 #[.int .i64 16, .bool false, .bool false]
 have k1 := Shp.tn_on k0 (below_alloc_ w1 (.cells #[.int .i64 16, .bool false, .bool false] 268))
 have f1 := Nm.rd_on f0 (below_alloc_ w1 (.cells #[.int .i64 16, .bool false, .bool false] 268))
 have g1 := rd_on g0 (below_alloc_ w1 (.cells #[.int .i64 16, .bool false, .bool false] 268))
 have z1' := z1.alloc z1.size (.cells #[.int .i64 16, .bool false, .bool false] 268)
 have s1' : w1.heap.size < (w1.alloc (.cells #[.int .i64 16, .bool false, .bool false] 268)).heap.size := by simp
 rw [hW1] at B1 k1 f1 g1 z1' s1'
 rw [hW1]
 clear hW1 k0 f0 g0 z1 s0 z0
 obtain ⟨m, hm⟩ : ∃ m, w1.heap.size = m := ⟨_, rfl⟩
 rw [hm] at B1 s1 s1'
 rw [hm]
 clear hm b1
 have q1 : w.heap.size + 2 < W1.heap.size := by omega
 have r1 : w.heap.size + 1 < W1.heap.size := by omega
 have t1 : w.heap.size < W1.heap.size := by omega
 have u0 := B1.c 0
 have u1 := B1.c 1
 have u2 := B1.c 2
 simp at u0 u1 u2
 go_wp2_with (first
  | (go_at_call 146; (with_reducible refine (CP.out _).mono ?_); rintro e w2 ⟨rfl, rfl⟩)
  | (go_at_call 146; (with_reducible refine (CA.out _).mono ?_); rintro e w3 ⟨rfl, rfl⟩))
 have hset := Shp.rd_set (S := kS) (W1.alloc (.cells (kS.v (D.mkK 2 q b Nm.D.zero D.zero)) 39)) (w.heap.size + 2) (D.mkK 2 q b Nm.D.zero D.zero) (Shp.tn_on k1 (below_alloc_ _ _))
 have z9 := below_setRow (z1'.alloc z1'.size (.cells (kS.v (D.mkK 2 q b Nm.D.zero D.zero)) 39)) (g := w.heap.size + 2) (by omega) (kS.v (D.mkK 2 q b Nm.D.zero D.zero))
 exact bodyPost_ret (v := .tuple #[.agg (kS.v (D.mkK 2 q b Nm.D.zero D.zero)), .int .i64 0]) (by rw [results_cell_tmp rfl]; simp [asAddr, Result.andThen, lvk_of hset]) rfl ⟨rfl, z9⟩

set_option maxHeartbeats 4000000 in
theorem kof_p3 (cT : ∀ (x : D.Tg) (w : World), Calls Tryz.prog 148 #[.agg (nc x)] w fun e w' => e = .returned (.bool (D.right x)) ∧ Below w.heap.size w w') (p : Int) (hp : ¬ (0 ≤ p ∧ p < 4)) (a : Int) (n : Nm.D.Nm) (t : D.Tg) (w : World) :
  Calls Tryz.prog 116 #[.int .i64 3, .int .i64 p, .int .i64 a, .agg (Nm.nc n), .agg (nc t)] w fun e w' => e = .returned (.tuple #[.agg (kS.v D.zK), .int .i64 5]) ∧ Below w.heap.size w w' := by
 obtain ⟨W0, hW0⟩ : ∃ W, ((w.alloc (.cells (Nm.nc n) 33)).alloc (.cells (nc t) 37)).alloc (.cells z25 39) = W := ⟨_, rfl⟩
 have f0 : Nm.rd W0 ⟨w.heap.size, 0, none⟩ = some n := by rw [← hW0]; exact Nm.rd_on (Nm.rd_on (Nm.rd_new w _ _ n rfl) (below_alloc_ _ _)) (below_alloc_ _ _)
 have g0 : rd W0 ⟨w.heap.size + 1, 0, none⟩ = some t := by rw [← hW0]; exact rd_on (rd_new _ _ _ t (by simp)) (below_alloc_ _ _)
 have k0 : Shp.tn 25 W0 (w.heap.size + 2) = true := by rw [← hW0]; exact Shp.tn_new _ _ _ _ _ (by simp) rfl
 have s0 : w.heap.size + 2 < W0.heap.size := by rw [← hW0]; simp
 have z0 : Below w.heap.size w W0 := by rw [← hW0]; exact (((Below.refl _ _).alloc (Nat.le_refl _) _).alloc (by simp) _).alloc (by simp; omega) _
 have CU := Lib.hid (fun w => (show Calls Tryz.prog 145 #[.int .i64 3] w fun e w' => e = .returned (.tuple #[.agg #[.int .i64 0, .bool false, .bool true], .bool true]) ∧ Below w.heap.size w w' from useOf_any 3 w))
 have CP := Lib.hid (fun w => (show Calls Tryz.prog 146 #[.int .i64 p, .int .i64 4] w fun e w' => e = .returned (.bool false) ∧ w = w' from by have := below_num p 4 w; rwa [decide_eq_false (by omega)] at this))
 clear cT hp
 go_enter Tryz.func116, Tryz.ntmps116
 unfold z25 at hW0
 go_wp2_with fail
 try rw [hW0]
 clear hW0
 go_wp2_with (go_at_call 145; (with_reducible refine (CU.out _).mono ?_); rintro e w1 ⟨rfl, b1⟩; have k0 := Shp.tn_on k0 b1; have s1 := Nat.lt_of_lt_of_le s0 b1.size; have z1 := below_up z0 z0.size b1; have f0 := Nm.rd_on f0 b1; have g0 := rd_on g0 b1)
 obtain ⟨W1, hW1⟩ : ∃ W, w1.alloc (.cells #[.int .i64 0, .bool false, .bool true] 268) = W := ⟨_, rfl⟩
 have B1 := Blk.new w1 268 #[.int .i64 0, .bool false, .bool true]
 have k1 := Shp.tn_on k0 (below_alloc_ w1 (.cells #[.int .i64 0, .bool false, .bool true] 268))
 have f1 := Nm.rd_on f0 (below_alloc_ w1 (.cells #[.int .i64 0, .bool false, .bool true] 268))
 have g1 := rd_on g0 (below_alloc_ w1 (.cells #[.int .i64 0, .bool false, .bool true] 268))
 have z1' := z1.alloc z1.size (.cells #[.int .i64 0, .bool false, .bool true] 268)
 have s1' : w1.heap.size < (w1.alloc (.cells #[.int .i64 0, .bool false, .bool true] 268)).heap.size := by simp
 rw [hW1] at B1 k1 f1 g1 z1' s1'
 rw [hW1]
 clear hW1 k0 f0 g0 z1 s0 z0
 obtain ⟨m, hm⟩ : ∃ m, w1.heap.size = m := ⟨_, rfl⟩
 rw [hm] at B1 s1 s1'
 rw [hm]
 clear hm b1
 have q1 : w.heap.size + 2 < W1.heap.size := by omega
 have r1 : w.heap.size + 1 < W1.heap.size := by omega
 have t1 : w.heap.size < W1.heap.size := by omega
 have u0 := B1.c 0
 have u1 := B1.c 1
 have u2 := B1.c 2
 simp at u0 u1 u2
 go_wp2_with (first
  | (go_at_call 146; (with_reducible refine (CP.out _).mono ?_); rintro e w2 ⟨rfl, rfl⟩))
 have hset := Shp.rd_set (S := kS) W1 (w.heap.size + 2) D.zK k1
 have z9 := below_setRow z1' (g := w.heap.size + 2) (by omega) (kS.v D.zK)
 exact bodyPost_ret (v := .tuple #[.agg (kS.v D.zK), .int .i64 5]) (by rw [results_cell_tmp rfl]; simp [asAddr, Result.andThen, lvk_of hset]) rfl ⟨rfl, z9⟩

set_option maxHeartbeats 4000000 in
theorem kof_z3 (cT : ∀ (x : D.Tg) (w : World), Calls Tryz.prog 148 #[.agg (nc x)] w fun e w' => e = .returned (.bool (D.right x)) ∧ Below w.heap.size w w') (q : Nat) (hp : q < 4) (a : Int) (n : Nm.D.Nm) (t : D.Tg) (ht : sm t D.zero = true) (w : World) :
  Calls Tryz.prog 116 #[.int .i64 3, .int .i64 (q : Int), .int .i64 a, .agg (Nm.nc n), .agg (nc t)] w fun e w' => e = .returned (.tuple #[.agg (kS.v D.zK), .int .i64 14]) ∧ Below w.heap.size w w' := by
 obtain ⟨W0, hW0⟩ : ∃ W, ((w.alloc (.cells (Nm.nc n) 33)).alloc (.cells (nc t) 37)).alloc (.cells z25 39) = W := ⟨_, rfl⟩
 have f0 : Nm.rd W0 ⟨w.heap.size, 0, none⟩ = some n := by rw [← hW0]; exact Nm.rd_on (Nm.rd_on (Nm.rd_new w _ _ n rfl) (below_alloc_ _ _)) (below_alloc_ _ _)
 have g0 : rd W0 ⟨w.heap.size + 1, 0, none⟩ = some t := by rw [← hW0]; exact rd_on (rd_new _ _ _ t (by simp)) (below_alloc_ _ _)
 have k0 : Shp.tn 25 W0 (w.heap.size + 2) = true := by rw [← hW0]; exact Shp.tn_new _ _ _ _ _ (by simp) rfl
 have s0 : w.heap.size + 2 < W0.heap.size := by rw [← hW0]; simp
 have z0 : Below w.heap.size w W0 := by rw [← hW0]; exact (((Below.refl _ _).alloc (Nat.le_refl _) _).alloc (by simp) _).alloc (by simp; omega) _
 have CU := Lib.hid (fun w => (show Calls Tryz.prog 145 #[.int .i64 3] w fun e w' => e = .returned (.tuple #[.agg #[.int .i64 0, .bool false, .bool true], .bool true]) ∧ Below w.heap.size w w' from useOf_any 3 w))
 have CP := Lib.hid (fun w => (show Calls Tryz.prog 146 #[.int .i64 (q : Int), .int .i64 4] w fun e w' => e = .returned (.bool true) ∧ w = w' from by have := below_num (q : Int) 4 w; rwa [decide_eq_true (by omega)] at this))
 have hb : ∀ W, (bdk #[(0, .int .u8 3), (1, .int .u8 (q : Int))]).run Tryz.prog W = .ok (.agg (kS.v (D.mkK 3 q 0 Nm.D.zero D.zero))) W := fun W => run_bdk_2 W 3 q (by omega) (by omega)
 have hq : q % 256 = q := Nat.mod_eq_of_lt (by omega)
 have hqi : (q : Int) % 256 = q := by omega
 clear cT hp
 go_enter Tryz.func116, Tryz.ntmps116
 unfold z25 at hW0
 go_wp2_with fail
 try rw [hW0]
 clear hW0
 go_wp2_with (go_at_call 145; (with_reducible refine (CU.out _).mono ?_); rintro e w1 ⟨rfl, b1⟩; have k0 := Shp.tn_on k0 b1; have s1 := Nat.lt_of_lt_of_le s0 b1.size; have z1 := below_up z0 z0.size b1; have f0 := Nm.rd_on f0 b1; have g0 := rd_on g0 b1)
 obtain ⟨W1, hW1⟩ : ∃ W, w1.alloc (.cells #[.int .i64 0, .bool false, .bool true] 268) = W := ⟨_, rfl⟩
 have B1 := Blk.new w1 268 #[.int .i64 0, .bool false, .bool true]
 have k1 := Shp.tn_on k0 (below_alloc_ w1 (.cells #[.int .i64 0, .bool false, .bool true] 268))
 have f1 := Nm.rd_on f0 (below_alloc_ w1 (.cells #[.int .i64 0, .bool false, .bool true] 268))
 have g1 := rd_on g0 (below_alloc_ w1 (.cells #[.int .i64 0, .bool false, .bool true] 268))
 have z1' := z1.alloc z1.size (.cells #[.int .i64 0, .bool false, .bool true] 268)
 have s1' : w1.heap.size < (w1.alloc (.cells #[.int .i64 0, .bool false, .bool true] 268)).heap.size := by simp
 rw [hW1] at B1 k1 f1 g1 z1' s1'
 rw [hW1]
 clear hW1 k0 f0 g0 z1 s0 z0
 obtain ⟨m, hm⟩ : ∃ m, w1.heap.size = m := ⟨_, rfl⟩
 rw [hm] at B1 s1 s1'
 rw [hm]
 clear hm b1
 have q1 : w.heap.size + 2 < W1.heap.size := by omega
 have r1 : w.heap.size + 1 < W1.heap.size := by omega
 have t1 : w.heap.size < W1.heap.size := by omega
 have u0 := B1.c 0
 have u1 := B1.c 1
 have u2 := B1.c 2
 simp at u0 u1 u2
 go_wp2_with (first
  | (go_at_call 146; (with_reducible refine (CP.out _).mono ?_); rintro e w2 ⟨rfl, rfl⟩))
 have hset := Shp.rd_set (S := kS) W1 (w.heap.size + 2) D.zK k1
 have z9 := below_setRow z1' (g := w.heap.size + 2) (by omega) (kS.v D.zK)
 exact bodyPost_ret (v := .tuple #[.agg (kS.v D.zK), .int .i64 14]) (by rw [results_cell_tmp rfl]; simp [asAddr, Result.andThen, lvk_of hset]) rfl ⟨rfl, z9⟩

set_option maxHeartbeats 4000000 in
theorem kof_w3 (cT : ∀ (x : D.Tg) (w : World), Calls Tryz.prog 148 #[.agg (nc x)] w fun e w' => e = .returned (.bool (D.right x)) ∧ Below w.heap.size w w') (q : Nat) (hp : q < 4) (a : Int) (n : Nm.D.Nm) (t : D.Tg) (ht : sm t D.zero = false) (hr : D.right t = false) (w : World) :
  Calls Tryz.prog 116 #[.int .i64 3, .int .i64 (q : Int), .int .i64 a, .agg (Nm.nc n), .agg (nc t)] w fun e w' => e = .returned (.tuple #[.agg (kS.v D.zK), .int .i64 14]) ∧ Below w.heap.size w w' := by
 obtain ⟨W0, hW0⟩ : ∃ W, ((w.alloc (.cells (Nm.nc n) 33)).alloc (.cells (nc t) 37)).alloc (.cells z25 39) = W := ⟨_, rfl⟩
 have f0 : Nm.rd W0 ⟨w.heap.size, 0, none⟩ = some n := by rw [← hW0]; exact Nm.rd_on (Nm.rd_on (Nm.rd_new w _ _ n rfl) (below_alloc_ _ _)) (below_alloc_ _ _)
 have g0 : rd W0 ⟨w.heap.size + 1, 0, none⟩ = some t := by rw [← hW0]; exact rd_on (rd_new _ _ _ t (by simp)) (below_alloc_ _ _)
 have k0 : Shp.tn 25 W0 (w.heap.size + 2) = true := by rw [← hW0]; exact Shp.tn_new _ _ _ _ _ (by simp) rfl
 have s0 : w.heap.size + 2 < W0.heap.size := by rw [← hW0]; simp
 have z0 : Below w.heap.size w W0 := by rw [← hW0]; exact (((Below.refl _ _).alloc (Nat.le_refl _) _).alloc (by simp) _).alloc (by simp; omega) _
 have CU := Lib.hid (fun w => (show Calls Tryz.prog 145 #[.int .i64 3] w fun e w' => e = .returned (.tuple #[.agg #[.int .i64 0, .bool false, .bool true], .bool true]) ∧ Below w.heap.size w w' from useOf_any 3 w))
 have CP := Lib.hid (fun w => (show Calls Tryz.prog 146 #[.int .i64 (q : Int), .int .i64 4] w fun e w' => e = .returned (.bool true) ∧ w = w' from by have := below_num (q : Int) 4 w; rwa [decide_eq_true (by omega)] at this))
 have CT := Lib.hid (fun w => (show Calls Tryz.prog 148 #[.agg (nc t)] w fun e w' => e = .returned (.bool false) ∧ Below w.heap.size w w' from by have := cT t w; rwa [hr] at this))
 have hb : ∀ W, (bdk #[(0, .int .u8 3), (1, .int .u8 (q : Int))]).run Tryz.prog W = .ok (.agg (kS.v (D.mkK 3 q 0 Nm.D.zero D.zero))) W := fun W => run_bdk_2 W 3 q (by omega) (by omega)
 have hq : q % 256 = q := Nat.mod_eq_of_lt (by omega)
 have hqi : (q : Int) % 256 = q := by omega
 clear cT hp hr
 go_enter Tryz.func116, Tryz.ntmps116
 unfold z25 at hW0
 go_wp2_with fail
 try rw [hW0]
 clear hW0
 go_wp2_with (go_at_call 145; (with_reducible refine (CU.out _).mono ?_); rintro e w1 ⟨rfl, b1⟩; have k0 := Shp.tn_on k0 b1; have s1 := Nat.lt_of_lt_of_le s0 b1.size; have z1 := below_up z0 z0.size b1; have f0 := Nm.rd_on f0 b1; have g0 := rd_on g0 b1)
 obtain ⟨W1, hW1⟩ : ∃ W, w1.alloc (.cells #[.int .i64 0, .bool false, .bool true] 268) = W := ⟨_, rfl⟩
 have B1 := Blk.new w1 268 #[.int .i64 0, .bool false, .bool true]
 have k1 := Shp.tn_on k0 (below_alloc_ w1 (.cells #[.int .i64 0, .bool false, .bool true] 268))
 have f1 := Nm.rd_on f0 (below_alloc_ w1 (.cells #[.int .i64 0, .bool false, .bool true] 268))
 have g1 := rd_on g0 (below_alloc_ w1 (.cells #[.int .i64 0, .bool false, .bool true] 268))
 have z1' := z1.alloc z1.size (.cells #[.int .i64 0, .bool false, .bool true] 268)
 have s1' : w1.heap.size < (w1.alloc (.cells #[.int .i64 0, .bool false, .bool true] 268)).heap.size := by simp
 rw [hW1] at B1 k1 f1 g1 z1' s1'
 rw [hW1]
 clear hW1 k0 f0 g0 z1 s0 z0
 obtain ⟨m, hm⟩ : ∃ m, w1.heap.size = m := ⟨_, rfl⟩
 rw [hm] at B1 s1 s1'
 rw [hm]
 clear hm b1
 have q1 : w.heap.size + 2 < W1.heap.size := by omega
 have r1 : w.heap.size + 1 < W1.heap.size := by omega
 have t1 : w.heap.size < W1.heap.size := by omega
 have u0 := B1.c 0
 have u1 := B1.c 1
 have u2 := B1.c 2
 simp at u0 u1 u2
 go_wp2_with (first
  | (go_at_call 146; (with_reducible refine (CP.out _).mono ?_); rintro e w2 ⟨rfl, rfl⟩)
  | (go_at_call 148; (with_reducible refine (CT.out _).mono ?_); rintro e w5 ⟨rfl, b5⟩; have B5 := B1.on b5; have k5 := Shp.tn_on k1 b5; have f5 := Nm.rd_on f1 b5; have g5 := rd_on g1 b5; have z5' := below_up z1' z1'.size b5; have s5' := Nat.lt_of_lt_of_le s1' b5.size; have q5 := Nat.lt_of_lt_of_le q1 b5.size; have r5 := Nat.lt_of_lt_of_le r1 b5.size; have t5 := Nat.lt_of_lt_of_le t1 b5.size; have v0 := B5.c 0; have v1 := B5.c 1; have v2 := B5.c 2; simp at v0 v1 v2))
 have hset := Shp.rd_set (S := kS) w5 (w.heap.size + 2) D.zK k5
 have z9 := below_setRow z5' (g := w.heap.size + 2) (by omega) (kS.v D.zK)
 exact bodyPost_ret (v := .tuple #[.agg (kS.v D.zK), .int .i64 14]) (by rw [results_cell_tmp rfl]; simp [asAddr, Result.andThen, lvk_of hset]) rfl ⟨rfl, z9⟩

set_option maxHeartbeats 4000000 in
theorem kof_ok3 (cT : ∀ (x : D.Tg) (w : World), Calls Tryz.prog 148 #[.agg (nc x)] w fun e w' => e = .returned (.bool (D.right x)) ∧ Below w.heap.size w w') (q : Nat) (hp : q < 4) (a : Int) (n : Nm.D.Nm) (t : D.Tg) (ht : sm t D.zero = false) (hr : D.right t = true) (w : World) :
  Calls Tryz.prog 116 #[.int .i64 3, .int .i64 (q : Int), .int .i64 a, .agg (Nm.nc n), .agg (nc t)] w fun e w' => e = .returned (.tuple #[.agg (kS.v (D.mkK 3 q 0 Nm.D.zero t)), .int .i64 0]) ∧ Below w.heap.size w w' := by
 obtain ⟨W0, hW0⟩ : ∃ W, ((w.alloc (.cells (Nm.nc n) 33)).alloc (.cells (nc t) 37)).alloc (.cells z25 39) = W := ⟨_, rfl⟩
 have f0 : Nm.rd W0 ⟨w.heap.size, 0, none⟩ = some n := by rw [← hW0]; exact Nm.rd_on (Nm.rd_on (Nm.rd_new w _ _ n rfl) (below_alloc_ _ _)) (below_alloc_ _ _)
 have g0 : rd W0 ⟨w.heap.size + 1, 0, none⟩ = some t := by rw [← hW0]; exact rd_on (rd_new _ _ _ t (by simp)) (below_alloc_ _ _)
 have k0 : Shp.tn 25 W0 (w.heap.size + 2) = true := by rw [← hW0]; exact Shp.tn_new _ _ _ _ _ (by simp) rfl
 have s0 : w.heap.size + 2 < W0.heap.size := by rw [← hW0]; simp
 have z0 : Below w.heap.size w W0 := by rw [← hW0]; exact (((Below.refl _ _).alloc (Nat.le_refl _) _).alloc (by simp) _).alloc (by simp; omega) _
 have CU := Lib.hid (fun w => (show Calls Tryz.prog 145 #[.int .i64 3] w fun e w' => e = .returned (.tuple #[.agg #[.int .i64 0, .bool false, .bool true], .bool true]) ∧ Below w.heap.size w w' from useOf_any 3 w))
 have CP := Lib.hid (fun w => (show Calls Tryz.prog 146 #[.int .i64 (q : Int), .int .i64 4] w fun e w' => e = .returned (.bool true) ∧ w = w' from by have := below_num (q : Int) 4 w; rwa [decide_eq_true (by omega)] at this))
 have CT := Lib.hid (fun w => (show Calls Tryz.prog 148 #[.agg (nc t)] w fun e w' => e = .returned (.bool true) ∧ Below w.heap.size w w' from by have := cT t w; rwa [hr] at this))
 have hb : ∀ W, (bdk #[(0, .int .u8 3), (1, .int .u8 (q : Int))]).run Tryz.prog W = .ok (.agg (kS.v (D.mkK 3 q 0 Nm.D.zero D.zero))) W := fun W => run_bdk_2 W 3 q (by omega) (by omega)
 have hq : q % 256 = q := Nat.mod_eq_of_lt (by omega)
 have hqi : (q : Int) % 256 = q := by omega
 clear cT hp hr
 go_enter Tryz.func116, Tryz.ntmps116
 unfold z25 at hW0
 go_wp2_with fail
 try rw [hW0]
 clear hW0
 go_wp2_with (go_at_call 145; (with_reducible refine (CU.out _).mono ?_); rintro e w1 ⟨rfl, b1⟩; have k0 := Shp.tn_on k0 b1; have s1 := Nat.lt_of_lt_of_le s0 b1.size; have z1 := below_up z0 z0.size b1; have f0 := Nm.rd_on f0 b1; have g0 := rd_on g0 b1)
 obtain ⟨W1, hW1⟩ : ∃ W, w1.alloc (.cells #[.int .i64 0, .bool false, .bool true] 268) = W := ⟨_, rfl⟩
 have B1 := Blk.new w1 268 #[.int .i64 0, .bool false, .bool true]
 have k1 := Shp.tn_on k0 (below_alloc_ w1 (.cells #[.int .i64 0, .bool false, .bool true] 268))
 have f1 := Nm.rd_on f0 (below_alloc_ w1 (.cells #[.int .i64 0, .bool false, .bool true] 268))
 have g1 := rd_on g0 (below_alloc_ w1 (.cells #[.int .i64 0, .bool false, .bool true] 268))
 have z1' := z1.alloc z1.size (.cells #[.int .i64 0, .bool false, .bool true] 268)
 have s1' : w1.heap.size < (w1.alloc (.cells #[.int .i64 0, .bool false, .bool true] 268)).heap.size := by simp
 rw [hW1] at B1 k1 f1 g1 z1' s1'
 rw [hW1]
 clear hW1 k0 f0 g0 z1 s0 z0
 obtain ⟨m, hm⟩ : ∃ m, w1.heap.size = m := ⟨_, rfl⟩
 rw [hm] at B1 s1 s1'
 rw [hm]
 clear hm b1
 have q1 : w.heap.size + 2 < W1.heap.size := by omega
 have r1 : w.heap.size + 1 < W1.heap.size := by omega
 have t1 : w.heap.size < W1.heap.size := by omega
 have u0 := B1.c 0
 have u1 := B1.c 1
 have u2 := B1.c 2
 simp at u0 u1 u2
 go_wp2_with (first
  | (go_at_call 146; (with_reducible refine (CP.out _).mono ?_); rintro e w2 ⟨rfl, rfl⟩)
  | (go_at_call 148; (with_reducible refine (CT.out _).mono ?_); rintro e w5 ⟨rfl, b5⟩; have B5 := B1.on b5; have k5 := Shp.tn_on k1 b5; have f5 := Nm.rd_on f1 b5; have g5 := rd_on g1 b5; have z5' := below_up z1' z1'.size b5; have s5' := Nat.lt_of_lt_of_le s1' b5.size; have q5 := Nat.lt_of_lt_of_le q1 b5.size; have r5 := Nat.lt_of_lt_of_le r1 b5.size; have t5 := Nat.lt_of_lt_of_le t1 b5.size; have v0 := B5.c 0; have v1 := B5.c 1; have v2 := B5.c 2; simp at v0 v1 v2))
 have hset := Shp.rd_set (S := kS) (w5.alloc (.cells (kS.v (D.mkK 3 q 0 Nm.D.zero t)) 39)) (w.heap.size + 2) (D.mkK 3 q 0 Nm.D.zero t) (Shp.tn_on k5 (below_alloc_ _ _))
 have z9 := below_setRow (z5'.alloc z5'.size (.cells (kS.v (D.mkK 3 q 0 Nm.D.zero t)) 39)) (g := w.heap.size + 2) (by omega) (kS.v (D.mkK 3 q 0 Nm.D.zero t))
 exact bodyPost_ret (v := .tuple #[.agg (kS.v (D.mkK 3 q 0 Nm.D.zero t)), .int .i64 0]) (by rw [results_cell_tmp rfl]; simp [asAddr, Result.andThen, lvk_of hset]) rfl ⟨rfl, z9⟩

set_option maxHeartbeats 4000000 in
theorem kof_p4 (cT : ∀ (x : D.Tg) (w : World), Calls Tryz.prog 148 #[.agg (nc x)] w fun e w' => e = .returned (.bool (D.right x)) ∧ Below w.heap.size w w') (p : Int) (hp : ¬ (0 ≤ p ∧ p < 4)) (a : Int) (n : Nm.D.Nm) (t : D.Tg) (w : World) :
  Calls Tryz.prog 116 #[.int .i64 4, .int .i64 p, .int .i64 a, .agg (Nm.nc n), .agg (nc t)] w fun e w' => e = .returned (.tuple #[.agg (kS.v D.zK), .int .i64 5]) ∧ Below w.heap.size w w' := by
 obtain ⟨W0, hW0⟩ : ∃ W, ((w.alloc (.cells (Nm.nc n) 33)).alloc (.cells (nc t) 37)).alloc (.cells z25 39) = W := ⟨_, rfl⟩
 have f0 : Nm.rd W0 ⟨w.heap.size, 0, none⟩ = some n := by rw [← hW0]; exact Nm.rd_on (Nm.rd_on (Nm.rd_new w _ _ n rfl) (below_alloc_ _ _)) (below_alloc_ _ _)
 have g0 : rd W0 ⟨w.heap.size + 1, 0, none⟩ = some t := by rw [← hW0]; exact rd_on (rd_new _ _ _ t (by simp)) (below_alloc_ _ _)
 have k0 : Shp.tn 25 W0 (w.heap.size + 2) = true := by rw [← hW0]; exact Shp.tn_new _ _ _ _ _ (by simp) rfl
 have s0 : w.heap.size + 2 < W0.heap.size := by rw [← hW0]; simp
 have z0 : Below w.heap.size w W0 := by rw [← hW0]; exact (((Below.refl _ _).alloc (Nat.le_refl _) _).alloc (by simp) _).alloc (by simp; omega) _
 have CU := Lib.hid (fun w => (show Calls Tryz.prog 145 #[.int .i64 4] w fun e w' => e = .returned (.tuple #[.agg #[.int .i64 4, .bool false, .bool false], .bool true]) ∧ Below w.heap.size w w' from useOf_any 4 w))
 have CP := Lib.hid (fun w => (show Calls Tryz.prog 146 #[.int .i64 p, .int .i64 4] w fun e w' => e = .returned (.bool false) ∧ w = w' from by have := below_num p 4 w; rwa [decide_eq_false (by omega)] at this))
 clear cT hp
 go_enter Tryz.func116, Tryz.ntmps116
 unfold z25 at hW0
 go_wp2_with fail
 try rw [hW0]
 clear hW0
 go_wp2_with (go_at_call 145; (with_reducible refine (CU.out _).mono ?_); rintro e w1 ⟨rfl, b1⟩; have k0 := Shp.tn_on k0 b1; have s1 := Nat.lt_of_lt_of_le s0 b1.size; have z1 := below_up z0 z0.size b1; have f0 := Nm.rd_on f0 b1; have g0 := rd_on g0 b1)
 obtain ⟨W1, hW1⟩ : ∃ W, w1.alloc (.cells #[.int .i64 4, .bool false, .bool false] 268) = W := ⟨_, rfl⟩
 have B1 := Blk.new w1 268 #[.int .i64 4, .bool false, .bool false]
 have k1 := Shp.tn_on k0 (below_alloc_ w1 (.cells #[.int .i64 4, .bool false, .bool false] 268))
 have f1 := Nm.rd_on f0 (below_alloc_ w1 (.cells #[.int .i64 4, .bool false, .bool false] 268))
 have g1 := rd_on g0 (below_alloc_ w1 (.cells #[.int .i64 4, .bool false, .bool false] 268))
 have z1' := z1.alloc z1.size (.cells #[.int .i64 4, .bool false, .bool false] 268)
 have s1' : w1.heap.size < (w1.alloc (.cells #[.int .i64 4, .bool false, .bool false] 268)).heap.size := by simp
 rw [hW1] at B1 k1 f1 g1 z1' s1'
 rw [hW1]
 clear hW1 k0 f0 g0 z1 s0 z0
 obtain ⟨m, hm⟩ : ∃ m, w1.heap.size = m := ⟨_, rfl⟩
 rw [hm] at B1 s1 s1'
 rw [hm]
 clear hm b1
 have q1 : w.heap.size + 2 < W1.heap.size := by omega
 have r1 : w.heap.size + 1 < W1.heap.size := by omega
 have t1 : w.heap.size < W1.heap.size := by omega
 have u0 := B1.c 0
 have u1 := B1.c 1
 have u2 := B1.c 2
 simp at u0 u1 u2
 go_wp2_with (first
  | (go_at_call 146; (with_reducible refine (CP.out _).mono ?_); rintro e w2 ⟨rfl, rfl⟩))
 have hset := Shp.rd_set (S := kS) W1 (w.heap.size + 2) D.zK k1
 have z9 := below_setRow z1' (g := w.heap.size + 2) (by omega) (kS.v D.zK)
 exact bodyPost_ret (v := .tuple #[.agg (kS.v D.zK), .int .i64 5]) (by rw [results_cell_tmp rfl]; simp [asAddr, Result.andThen, lvk_of hset]) rfl ⟨rfl, z9⟩

set_option maxHeartbeats 4000000 in
theorem kof_a4 (cT : ∀ (x : D.Tg) (w : World), Calls Tryz.prog 148 #[.agg (nc x)] w fun e w' => e = .returned (.bool (D.right x)) ∧ Below w.heap.size w w') (q : Nat) (hp : q < 4) (a : Int) (ha : ¬ (0 ≤ a ∧ a < 4)) (n : Nm.D.Nm) (t : D.Tg) (w : World) :
  Calls Tryz.prog 116 #[.int .i64 4, .int .i64 (q : Int), .int .i64 a, .agg (Nm.nc n), .agg (nc t)] w fun e w' => e = .returned (.tuple #[.agg (kS.v D.zK), .int .i64 5]) ∧ Below w.heap.size w w' := by
 obtain ⟨W0, hW0⟩ : ∃ W, ((w.alloc (.cells (Nm.nc n) 33)).alloc (.cells (nc t) 37)).alloc (.cells z25 39) = W := ⟨_, rfl⟩
 have f0 : Nm.rd W0 ⟨w.heap.size, 0, none⟩ = some n := by rw [← hW0]; exact Nm.rd_on (Nm.rd_on (Nm.rd_new w _ _ n rfl) (below_alloc_ _ _)) (below_alloc_ _ _)
 have g0 : rd W0 ⟨w.heap.size + 1, 0, none⟩ = some t := by rw [← hW0]; exact rd_on (rd_new _ _ _ t (by simp)) (below_alloc_ _ _)
 have k0 : Shp.tn 25 W0 (w.heap.size + 2) = true := by rw [← hW0]; exact Shp.tn_new _ _ _ _ _ (by simp) rfl
 have s0 : w.heap.size + 2 < W0.heap.size := by rw [← hW0]; simp
 have z0 : Below w.heap.size w W0 := by rw [← hW0]; exact (((Below.refl _ _).alloc (Nat.le_refl _) _).alloc (by simp) _).alloc (by simp; omega) _
 have CU := Lib.hid (fun w => (show Calls Tryz.prog 145 #[.int .i64 4] w fun e w' => e = .returned (.tuple #[.agg #[.int .i64 4, .bool false, .bool false], .bool true]) ∧ Below w.heap.size w w' from useOf_any 4 w))
 have CP := Lib.hid (fun w => (show Calls Tryz.prog 146 #[.int .i64 (q : Int), .int .i64 4] w fun e w' => e = .returned (.bool true) ∧ w = w' from by have := below_num (q : Int) 4 w; rwa [decide_eq_true (by omega)] at this))
 have CA := Lib.hid (fun w => (show Calls Tryz.prog 146 #[.int .i64 a, .int .i64 4] w fun e w' => e = .returned (.bool false) ∧ w = w' from by have := below_num a 4 w; rwa [decide_eq_false (by omega)] at this))
 have hb : ∀ W, (bdk #[(0, .int .u8 4), (1, .int .u8 (q : Int))]).run Tryz.prog W = .ok (.agg (kS.v (D.mkK 4 q 0 Nm.D.zero D.zero))) W := fun W => run_bdk_2 W 4 q (by omega) (by omega)
 have hq : q % 256 = q := Nat.mod_eq_of_lt (by omega)
 have hqi : (q : Int) % 256 = q := by omega
 clear cT hp ha
 go_enter Tryz.func116, Tryz.ntmps116
 unfold z25 at hW0
 go_wp2_with fail
 try rw [hW0]
 clear hW0
 go_wp2_with (go_at_call 145; (with_reducible refine (CU.out _).mono ?_); rintro e w1 ⟨rfl, b1⟩; have k0 := Shp.tn_on k0 b1; have s1 := Nat.lt_of_lt_of_le s0 b1.size; have z1 := below_up z0 z0.size b1; have f0 := Nm.rd_on f0 b1; have g0 := rd_on g0 b1)
 obtain ⟨W1, hW1⟩ : ∃ W, w1.alloc (.cells #[.int .i64 4, .bool false, .bool false] 268) = W := ⟨_, rfl⟩
 have B1 := Blk.new w1 268 #[.int .i64 4, .bool false, .bool false]
 have k1 := Shp.tn_on k0 (below_alloc_ w1 (.cells #[.int .i64 4, .bool false, .bool false] 268))
 have f1 := Nm.rd_on f0 (below_alloc_ w1 (.cells #[.int .i64 4, .bool false, .bool false] 268))
 have g1 := rd_on g0 (below_alloc_ w1 (.cells #[.int .i64 4, .bool false, .bool false] 268))
 have z1' := z1.alloc z1.size (.cells #[.int .i64 4, .bool false, .bool false] 268)
 have s1' : w1.heap.size < (w1.alloc (.cells #[.int .i64 4, .bool false, .bool false] 268)).heap.size := by simp
 rw [hW1] at B1 k1 f1 g1 z1' s1'
 rw [hW1]
 clear hW1 k0 f0 g0 z1 s0 z0
 obtain ⟨m, hm⟩ : ∃ m, w1.heap.size = m := ⟨_, rfl⟩
 rw [hm] at B1 s1 s1'
 rw [hm]
 clear hm b1
 have q1 : w.heap.size + 2 < W1.heap.size := by omega
 have r1 : w.heap.size + 1 < W1.heap.size := by omega
 have t1 : w.heap.size < W1.heap.size := by omega
 have u0 := B1.c 0
 have u1 := B1.c 1
 have u2 := B1.c 2
 simp at u0 u1 u2
 go_wp2_with (first
  | (go_at_call 146; (with_reducible refine (CP.out _).mono ?_); rintro e w2 ⟨rfl, rfl⟩)
  | (go_at_call 146; (with_reducible refine (CA.out _).mono ?_); rintro e w3 ⟨rfl, rfl⟩))
 have hset := Shp.rd_set (S := kS) W1 (w.heap.size + 2) D.zK k1
 have z9 := below_setRow z1' (g := w.heap.size + 2) (by omega) (kS.v D.zK)
 exact bodyPost_ret (v := .tuple #[.agg (kS.v D.zK), .int .i64 5]) (by rw [results_cell_tmp rfl]; simp [asAddr, Result.andThen, lvk_of hset]) rfl ⟨rfl, z9⟩

set_option maxHeartbeats 4000000 in
theorem kof_ok4 (cT : ∀ (x : D.Tg) (w : World), Calls Tryz.prog 148 #[.agg (nc x)] w fun e w' => e = .returned (.bool (D.right x)) ∧ Below w.heap.size w w') (q : Nat) (hp : q < 4) (b : Nat) (ha : b < 4) (n : Nm.D.Nm) (t : D.Tg) (w : World) :
  Calls Tryz.prog 116 #[.int .i64 4, .int .i64 (q : Int), .int .i64 (b : Int), .agg (Nm.nc n), .agg (nc t)] w fun e w' => e = .returned (.tuple #[.agg (kS.v (D.mkK 4 q b Nm.D.zero D.zero)), .int .i64 0]) ∧ Below w.heap.size w w' := by
 obtain ⟨W0, hW0⟩ : ∃ W, ((w.alloc (.cells (Nm.nc n) 33)).alloc (.cells (nc t) 37)).alloc (.cells z25 39) = W := ⟨_, rfl⟩
 have f0 : Nm.rd W0 ⟨w.heap.size, 0, none⟩ = some n := by rw [← hW0]; exact Nm.rd_on (Nm.rd_on (Nm.rd_new w _ _ n rfl) (below_alloc_ _ _)) (below_alloc_ _ _)
 have g0 : rd W0 ⟨w.heap.size + 1, 0, none⟩ = some t := by rw [← hW0]; exact rd_on (rd_new _ _ _ t (by simp)) (below_alloc_ _ _)
 have k0 : Shp.tn 25 W0 (w.heap.size + 2) = true := by rw [← hW0]; exact Shp.tn_new _ _ _ _ _ (by simp) rfl
 have s0 : w.heap.size + 2 < W0.heap.size := by rw [← hW0]; simp
 have z0 : Below w.heap.size w W0 := by rw [← hW0]; exact (((Below.refl _ _).alloc (Nat.le_refl _) _).alloc (by simp) _).alloc (by simp; omega) _
 have CU := Lib.hid (fun w => (show Calls Tryz.prog 145 #[.int .i64 4] w fun e w' => e = .returned (.tuple #[.agg #[.int .i64 4, .bool false, .bool false], .bool true]) ∧ Below w.heap.size w w' from useOf_any 4 w))
 have CP := Lib.hid (fun w => (show Calls Tryz.prog 146 #[.int .i64 (q : Int), .int .i64 4] w fun e w' => e = .returned (.bool true) ∧ w = w' from by have := below_num (q : Int) 4 w; rwa [decide_eq_true (by omega)] at this))
 have CA := Lib.hid (fun w => (show Calls Tryz.prog 146 #[.int .i64 (b : Int), .int .i64 4] w fun e w' => e = .returned (.bool true) ∧ w = w' from by have := below_num (b : Int) 4 w; rwa [decide_eq_true (by omega)] at this))
 have hb : ∀ W, (bdk #[(0, .int .u8 4), (1, .int .u8 (q : Int))]).run Tryz.prog W = .ok (.agg (kS.v (D.mkK 4 q 0 Nm.D.zero D.zero))) W := fun W => run_bdk_2 W 4 q (by omega) (by omega)
 have hq : q % 256 = q := Nat.mod_eq_of_lt (by omega)
 have hqi : (q : Int) % 256 = q := by omega
 have hbi : (b : Int) % 256 = b := by omega
 have hs := fun (n : Nm.D.Nm) (t : D.Tg) => kset_a 4 q 0 n t b (by omega)
 clear cT hp ha
 go_enter Tryz.func116, Tryz.ntmps116
 unfold z25 at hW0
 go_wp2_with fail
 try rw [hW0]
 clear hW0
 go_wp2_with (go_at_call 145; (with_reducible refine (CU.out _).mono ?_); rintro e w1 ⟨rfl, b1⟩; have k0 := Shp.tn_on k0 b1; have s1 := Nat.lt_of_lt_of_le s0 b1.size; have z1 := below_up z0 z0.size b1; have f0 := Nm.rd_on f0 b1; have g0 := rd_on g0 b1)
 obtain ⟨W1, hW1⟩ : ∃ W, w1.alloc (.cells #[.int .i64 4, .bool false, .bool false] 268) = W := ⟨_, rfl⟩
 have B1 := Blk.new w1 268 #[.int .i64 4, .bool false, .bool false]
 have k1 := Shp.tn_on k0 (below_alloc_ w1 (.cells #[.int .i64 4, .bool false, .bool false] 268))
 have f1 := Nm.rd_on f0 (below_alloc_ w1 (.cells #[.int .i64 4, .bool false, .bool false] 268))
 have g1 := rd_on g0 (below_alloc_ w1 (.cells #[.int .i64 4, .bool false, .bool false] 268))
 have z1' := z1.alloc z1.size (.cells #[.int .i64 4, .bool false, .bool false] 268)
 have s1' : w1.heap.size < (w1.alloc (.cells #[.int .i64 4, .bool false, .bool false] 268)).heap.size := by simp
 rw [hW1] at B1 k1 f1 g1 z1' s1'
 rw [hW1]
 clear hW1 k0 f0 g0 z1 s0 z0
 obtain ⟨m, hm⟩ : ∃ m, w1.heap.size = m := ⟨_, rfl⟩
 rw [hm] at B1 s1 s1'
 rw [hm]
 clear hm b1
 have q1 : w.heap.size + 2 < W1.heap.size := by omega
 have r1 : w.heap.size + 1 < W1.heap.size := by omega
 have t1 : w.heap.size < W1.heap.size := by omega
 have u0 := B1.c 0
 have u1 := B1.c 1
 have u2 := B1.c 2
 simp at u0 u1 u2
 go_wp2_with (first
  | (go_at_call 146; (with_reducible refine (CP.out _).mono ?_); rintro e w2 ⟨rfl, rfl⟩)
  | (go_at_call 146; (with_reducible refine (CA.out _).mono ?_); rintro e w3 ⟨rfl, rfl⟩))
 have hset := Shp.rd_set (S := kS) (W1.alloc (.cells (kS.v (D.mkK 4 q b Nm.D.zero D.zero)) 39)) (w.heap.size + 2) (D.mkK 4 q b Nm.D.zero D.zero) (Shp.tn_on k1 (below_alloc_ _ _))
 have z9 := below_setRow (z1'.alloc z1'.size (.cells (kS.v (D.mkK 4 q b Nm.D.zero D.zero)) 39)) (g := w.heap.size + 2) (by omega) (kS.v (D.mkK 4 q b Nm.D.zero D.zero))
 exact bodyPost_ret (v := .tuple #[.agg (kS.v (D.mkK 4 q b Nm.D.zero D.zero)), .int .i64 0]) (by rw [results_cell_tmp rfl]; simp [asAddr, Result.andThen, lvk_of hset]) rfl ⟨rfl, z9⟩

set_option maxHeartbeats 4000000 in
theorem kof_p5 (cT : ∀ (x : D.Tg) (w : World), Calls Tryz.prog 148 #[.agg (nc x)] w fun e w' => e = .returned (.bool (D.right x)) ∧ Below w.heap.size w w') (p : Int) (hp : ¬ (0 ≤ p ∧ p < 4)) (a : Int) (n : Nm.D.Nm) (t : D.Tg) (w : World) :
  Calls Tryz.prog 116 #[.int .i64 5, .int .i64 p, .int .i64 a, .agg (Nm.nc n), .agg (nc t)] w fun e w' => e = .returned (.tuple #[.agg (kS.v D.zK), .int .i64 5]) ∧ Below w.heap.size w w' := by
 obtain ⟨W0, hW0⟩ : ∃ W, ((w.alloc (.cells (Nm.nc n) 33)).alloc (.cells (nc t) 37)).alloc (.cells z25 39) = W := ⟨_, rfl⟩
 have f0 : Nm.rd W0 ⟨w.heap.size, 0, none⟩ = some n := by rw [← hW0]; exact Nm.rd_on (Nm.rd_on (Nm.rd_new w _ _ n rfl) (below_alloc_ _ _)) (below_alloc_ _ _)
 have g0 : rd W0 ⟨w.heap.size + 1, 0, none⟩ = some t := by rw [← hW0]; exact rd_on (rd_new _ _ _ t (by simp)) (below_alloc_ _ _)
 have k0 : Shp.tn 25 W0 (w.heap.size + 2) = true := by rw [← hW0]; exact Shp.tn_new _ _ _ _ _ (by simp) rfl
 have s0 : w.heap.size + 2 < W0.heap.size := by rw [← hW0]; simp
 have z0 : Below w.heap.size w W0 := by rw [← hW0]; exact (((Below.refl _ _).alloc (Nat.le_refl _) _).alloc (by simp) _).alloc (by simp; omega) _
 have CU := Lib.hid (fun w => (show Calls Tryz.prog 145 #[.int .i64 5] w fun e w' => e = .returned (.tuple #[.agg #[.int .i64 4, .bool true, .bool false], .bool true]) ∧ Below w.heap.size w w' from useOf_any 5 w))
 have CP := Lib.hid (fun w => (show Calls Tryz.prog 146 #[.int .i64 p, .int .i64 4] w fun e w' => e = .returned (.bool false) ∧ w = w' from by have := below_num p 4 w; rwa [decide_eq_false (by omega)] at this))
 clear cT hp
 go_enter Tryz.func116, Tryz.ntmps116
 unfold z25 at hW0
 go_wp2_with fail
 try rw [hW0]
 clear hW0
 go_wp2_with (go_at_call 145; (with_reducible refine (CU.out _).mono ?_); rintro e w1 ⟨rfl, b1⟩; have k0 := Shp.tn_on k0 b1; have s1 := Nat.lt_of_lt_of_le s0 b1.size; have z1 := below_up z0 z0.size b1; have f0 := Nm.rd_on f0 b1; have g0 := rd_on g0 b1)
 obtain ⟨W1, hW1⟩ : ∃ W, w1.alloc (.cells #[.int .i64 4, .bool true, .bool false] 268) = W := ⟨_, rfl⟩
 have B1 := Blk.new w1 268 #[.int .i64 4, .bool true, .bool false]
 have k1 := Shp.tn_on k0 (below_alloc_ w1 (.cells #[.int .i64 4, .bool true, .bool false] 268))
 have f1 := Nm.rd_on f0 (below_alloc_ w1 (.cells #[.int .i64 4, .bool true, .bool false] 268))
 have g1 := rd_on g0 (below_alloc_ w1 (.cells #[.int .i64 4, .bool true, .bool false] 268))
 have z1' := z1.alloc z1.size (.cells #[.int .i64 4, .bool true, .bool false] 268)
 have s1' : w1.heap.size < (w1.alloc (.cells #[.int .i64 4, .bool true, .bool false] 268)).heap.size := by simp
 rw [hW1] at B1 k1 f1 g1 z1' s1'
 rw [hW1]
 clear hW1 k0 f0 g0 z1 s0 z0
 obtain ⟨m, hm⟩ : ∃ m, w1.heap.size = m := ⟨_, rfl⟩
 rw [hm] at B1 s1 s1'
 rw [hm]
 clear hm b1
 have q1 : w.heap.size + 2 < W1.heap.size := by omega
 have r1 : w.heap.size + 1 < W1.heap.size := by omega
 have t1 : w.heap.size < W1.heap.size := by omega
 have u0 := B1.c 0
 have u1 := B1.c 1
 have u2 := B1.c 2
 simp at u0 u1 u2
 go_wp2_with (first
  | (go_at_call 146; (with_reducible refine (CP.out _).mono ?_); rintro e w2 ⟨rfl, rfl⟩))
 have hset := Shp.rd_set (S := kS) W1 (w.heap.size + 2) D.zK k1
 have z9 := below_setRow z1' (g := w.heap.size + 2) (by omega) (kS.v D.zK)
 exact bodyPost_ret (v := .tuple #[.agg (kS.v D.zK), .int .i64 5]) (by rw [results_cell_tmp rfl]; simp [asAddr, Result.andThen, lvk_of hset]) rfl ⟨rfl, z9⟩

set_option maxHeartbeats 4000000 in
theorem kof_a5 (cT : ∀ (x : D.Tg) (w : World), Calls Tryz.prog 148 #[.agg (nc x)] w fun e w' => e = .returned (.bool (D.right x)) ∧ Below w.heap.size w w') (q : Nat) (hp : q < 4) (a : Int) (ha : ¬ (0 ≤ a ∧ a < 4)) (n : Nm.D.Nm) (t : D.Tg) (w : World) :
  Calls Tryz.prog 116 #[.int .i64 5, .int .i64 (q : Int), .int .i64 a, .agg (Nm.nc n), .agg (nc t)] w fun e w' => e = .returned (.tuple #[.agg (kS.v D.zK), .int .i64 5]) ∧ Below w.heap.size w w' := by
 obtain ⟨W0, hW0⟩ : ∃ W, ((w.alloc (.cells (Nm.nc n) 33)).alloc (.cells (nc t) 37)).alloc (.cells z25 39) = W := ⟨_, rfl⟩
 have f0 : Nm.rd W0 ⟨w.heap.size, 0, none⟩ = some n := by rw [← hW0]; exact Nm.rd_on (Nm.rd_on (Nm.rd_new w _ _ n rfl) (below_alloc_ _ _)) (below_alloc_ _ _)
 have g0 : rd W0 ⟨w.heap.size + 1, 0, none⟩ = some t := by rw [← hW0]; exact rd_on (rd_new _ _ _ t (by simp)) (below_alloc_ _ _)
 have k0 : Shp.tn 25 W0 (w.heap.size + 2) = true := by rw [← hW0]; exact Shp.tn_new _ _ _ _ _ (by simp) rfl
 have s0 : w.heap.size + 2 < W0.heap.size := by rw [← hW0]; simp
 have z0 : Below w.heap.size w W0 := by rw [← hW0]; exact (((Below.refl _ _).alloc (Nat.le_refl _) _).alloc (by simp) _).alloc (by simp; omega) _
 have CU := Lib.hid (fun w => (show Calls Tryz.prog 145 #[.int .i64 5] w fun e w' => e = .returned (.tuple #[.agg #[.int .i64 4, .bool true, .bool false], .bool true]) ∧ Below w.heap.size w w' from useOf_any 5 w))
 have CP := Lib.hid (fun w => (show Calls Tryz.prog 146 #[.int .i64 (q : Int), .int .i64 4] w fun e w' => e = .returned (.bool true) ∧ w = w' from by have := below_num (q : Int) 4 w; rwa [decide_eq_true (by omega)] at this))
 have CA := Lib.hid (fun w => (show Calls Tryz.prog 146 #[.int .i64 a, .int .i64 4] w fun e w' => e = .returned (.bool false) ∧ w = w' from by have := below_num a 4 w; rwa [decide_eq_false (by omega)] at this))
 have hb : ∀ W, (bdk #[(0, .int .u8 5), (1, .int .u8 (q : Int))]).run Tryz.prog W = .ok (.agg (kS.v (D.mkK 5 q 0 Nm.D.zero D.zero))) W := fun W => run_bdk_2 W 5 q (by omega) (by omega)
 have hq : q % 256 = q := Nat.mod_eq_of_lt (by omega)
 have hqi : (q : Int) % 256 = q := by omega
 clear cT hp ha
 go_enter Tryz.func116, Tryz.ntmps116
 unfold z25 at hW0
 go_wp2_with fail
 try rw [hW0]
 clear hW0
 go_wp2_with (go_at_call 145; (with_reducible refine (CU.out _).mono ?_); rintro e w1 ⟨rfl, b1⟩; have k0 := Shp.tn_on k0 b1; have s1 := Nat.lt_of_lt_of_le s0 b1.size; have z1 := below_up z0 z0.size b1; have f0 := Nm.rd_on f0 b1; have g0 := rd_on g0 b1)
 obtain ⟨W1, hW1⟩ : ∃ W, w1.alloc (.cells #[.int .i64 4, .bool true, .bool false] 268) = W := ⟨_, rfl⟩
 have B1 := Blk.new w1 268 #[.int .i64 4, .bool true, .bool false]
 have k1 := Shp.tn_on k0 (below_alloc_ w1 (.cells #[.int .i64 4, .bool true, .bool false] 268))
 have f1 := Nm.rd_on f0 (below_alloc_ w1 (.cells #[.int .i64 4, .bool true, .bool false] 268))
 have g1 := rd_on g0 (below_alloc_ w1 (.cells #[.int .i64 4, .bool true, .bool false] 268))
 have z1' := z1.alloc z1.size (.cells #[.int .i64 4, .bool true, .bool false] 268)
 have s1' : w1.heap.size < (w1.alloc (.cells #[.int .i64 4, .bool true, .bool false] 268)).heap.size := by simp
 rw [hW1] at B1 k1 f1 g1 z1' s1'
 rw [hW1]
 clear hW1 k0 f0 g0 z1 s0 z0
 obtain ⟨m, hm⟩ : ∃ m, w1.heap.size = m := ⟨_, rfl⟩
 rw [hm] at B1 s1 s1'
 rw [hm]
 clear hm b1
 have q1 : w.heap.size + 2 < W1.heap.size := by omega
 have r1 : w.heap.size + 1 < W1.heap.size := by omega
 have t1 : w.heap.size < W1.heap.size := by omega
 have u0 := B1.c 0
 have u1 := B1.c 1
 have u2 := B1.c 2
 simp at u0 u1 u2
 go_wp2_with (first
  | (go_at_call 146; (with_reducible refine (CP.out _).mono ?_); rintro e w2 ⟨rfl, rfl⟩)
  | (go_at_call 146; (with_reducible refine (CA.out _).mono ?_); rintro e w3 ⟨rfl, rfl⟩))
 have hset := Shp.rd_set (S := kS) W1 (w.heap.size + 2) D.zK k1
 have z9 := below_setRow z1' (g := w.heap.size + 2) (by omega) (kS.v D.zK)
 exact bodyPost_ret (v := .tuple #[.agg (kS.v D.zK), .int .i64 5]) (by rw [results_cell_tmp rfl]; simp [asAddr, Result.andThen, lvk_of hset]) rfl ⟨rfl, z9⟩

set_option maxHeartbeats 4000000 in
theorem kof_n5 (cT : ∀ (x : D.Tg) (w : World), Calls Tryz.prog 148 #[.agg (nc x)] w fun e w' => e = .returned (.bool (D.right x)) ∧ Below w.heap.size w w') (q : Nat) (hp : q < 4) (b : Nat) (ha : b < 4) (n : Nm.D.Nm) (t : D.Tg) (hn : Nm.D.right n = false) (w : World) :
  Calls Tryz.prog 116 #[.int .i64 5, .int .i64 (q : Int), .int .i64 (b : Int), .agg (Nm.nc n), .agg (nc t)] w fun e w' => e = .returned (.tuple #[.agg (kS.v D.zK), .int .i64 15]) ∧ Below w.heap.size w w' := by
 obtain ⟨W0, hW0⟩ : ∃ W, ((w.alloc (.cells (Nm.nc n) 33)).alloc (.cells (nc t) 37)).alloc (.cells z25 39) = W := ⟨_, rfl⟩
 have f0 : Nm.rd W0 ⟨w.heap.size, 0, none⟩ = some n := by rw [← hW0]; exact Nm.rd_on (Nm.rd_on (Nm.rd_new w _ _ n rfl) (below_alloc_ _ _)) (below_alloc_ _ _)
 have g0 : rd W0 ⟨w.heap.size + 1, 0, none⟩ = some t := by rw [← hW0]; exact rd_on (rd_new _ _ _ t (by simp)) (below_alloc_ _ _)
 have k0 : Shp.tn 25 W0 (w.heap.size + 2) = true := by rw [← hW0]; exact Shp.tn_new _ _ _ _ _ (by simp) rfl
 have s0 : w.heap.size + 2 < W0.heap.size := by rw [← hW0]; simp
 have z0 : Below w.heap.size w W0 := by rw [← hW0]; exact (((Below.refl _ _).alloc (Nat.le_refl _) _).alloc (by simp) _).alloc (by simp; omega) _
 have CU := Lib.hid (fun w => (show Calls Tryz.prog 145 #[.int .i64 5] w fun e w' => e = .returned (.tuple #[.agg #[.int .i64 4, .bool true, .bool false], .bool true]) ∧ Below w.heap.size w w' from useOf_any 5 w))
 have CP := Lib.hid (fun w => (show Calls Tryz.prog 146 #[.int .i64 (q : Int), .int .i64 4] w fun e w' => e = .returned (.bool true) ∧ w = w' from by have := below_num (q : Int) 4 w; rwa [decide_eq_true (by omega)] at this))
 have CA := Lib.hid (fun w => (show Calls Tryz.prog 146 #[.int .i64 (b : Int), .int .i64 4] w fun e w' => e = .returned (.bool true) ∧ w = w' from by have := below_num (b : Int) 4 w; rwa [decide_eq_true (by omega)] at this))
 have CN := Lib.hid (fun w => (show Calls Tryz.prog 147 #[.agg (Nm.nc n)] w fun e w' => e = .returned (.bool false) ∧ Below w.heap.size w w' from by have := Nm.right_any n w; rwa [hn] at this))
 have hb : ∀ W, (bdk #[(0, .int .u8 5), (1, .int .u8 (q : Int))]).run Tryz.prog W = .ok (.agg (kS.v (D.mkK 5 q 0 Nm.D.zero D.zero))) W := fun W => run_bdk_2 W 5 q (by omega) (by omega)
 have hq : q % 256 = q := Nat.mod_eq_of_lt (by omega)
 have hqi : (q : Int) % 256 = q := by omega
 have hbi : (b : Int) % 256 = b := by omega
 have hs := fun (n : Nm.D.Nm) (t : D.Tg) => kset_a 5 q 0 n t b (by omega)
 clear cT hp ha hn
 go_enter Tryz.func116, Tryz.ntmps116
 unfold z25 at hW0
 go_wp2_with fail
 try rw [hW0]
 clear hW0
 go_wp2_with (go_at_call 145; (with_reducible refine (CU.out _).mono ?_); rintro e w1 ⟨rfl, b1⟩; have k0 := Shp.tn_on k0 b1; have s1 := Nat.lt_of_lt_of_le s0 b1.size; have z1 := below_up z0 z0.size b1; have f0 := Nm.rd_on f0 b1; have g0 := rd_on g0 b1)
 obtain ⟨W1, hW1⟩ : ∃ W, w1.alloc (.cells #[.int .i64 4, .bool true, .bool false] 268) = W := ⟨_, rfl⟩
 have B1 := Blk.new w1 268 #[.int .i64 4, .bool true, .bool false]
 have k1 := Shp.tn_on k0 (below_alloc_ w1 (.cells #[.int .i64 4, .bool true, .bool false] 268))
 have f1 := Nm.rd_on f0 (below_alloc_ w1 (.cells #[.int .i64 4, .bool true, .bool false] 268))
 have g1 := rd_on g0 (below_alloc_ w1 (.cells #[.int .i64 4, .bool true, .bool false] 268))
 have z1' := z1.alloc z1.size (.cells #[.int .i64 4, .bool true, .bool false] 268)
 have s1' : w1.heap.size < (w1.alloc (.cells #[.int .i64 4, .bool true, .bool false] 268)).heap.size := by simp
 rw [hW1] at B1 k1 f1 g1 z1' s1'
 rw [hW1]
 clear hW1 k0 f0 g0 z1 s0 z0
 obtain ⟨m, hm⟩ : ∃ m, w1.heap.size = m := ⟨_, rfl⟩
 rw [hm] at B1 s1 s1'
 rw [hm]
 clear hm b1
 have q1 : w.heap.size + 2 < W1.heap.size := by omega
 have r1 : w.heap.size + 1 < W1.heap.size := by omega
 have t1 : w.heap.size < W1.heap.size := by omega
 have u0 := B1.c 0
 have u1 := B1.c 1
 have u2 := B1.c 2
 simp at u0 u1 u2
 go_wp2_with (first
  | (go_at_call 146; (with_reducible refine (CP.out _).mono ?_); rintro e w2 ⟨rfl, rfl⟩)
  | (go_at_call 146; (with_reducible refine (CA.out _).mono ?_); rintro e w3 ⟨rfl, rfl⟩)
  | (go_at_call 147; (with_reducible refine (CN.out _).mono ?_); rintro e w4 ⟨rfl, b4⟩; have B4 := B1.on b4; have k4 := Shp.tn_on k1 b4; have f4 := Nm.rd_on f1 b4; have g4 := rd_on g1 b4; have z4' := below_up z1' z1'.size b4; have s4' := Nat.lt_of_lt_of_le s1' b4.size; have q4 := Nat.lt_of_lt_of_le q1 b4.size; have r4 := Nat.lt_of_lt_of_le r1 b4.size; have t4 := Nat.lt_of_lt_of_le t1 b4.size; have v0 := B4.c 0; have v1 := B4.c 1; have v2 := B4.c 2; simp at v0 v1 v2))
 have hset := Shp.rd_set (S := kS) w4 (w.heap.size + 2) D.zK k4
 have z9 := below_setRow z4' (g := w.heap.size + 2) (by omega) (kS.v D.zK)
 exact bodyPost_ret (v := .tuple #[.agg (kS.v D.zK), .int .i64 15]) (by rw [results_cell_tmp rfl]; simp [asAddr, Result.andThen, lvk_of hset]) rfl ⟨rfl, z9⟩

set_option maxHeartbeats 4000000 in
theorem kof_ok5 (cT : ∀ (x : D.Tg) (w : World), Calls Tryz.prog 148 #[.agg (nc x)] w fun e w' => e = .returned (.bool (D.right x)) ∧ Below w.heap.size w w') (q : Nat) (hp : q < 4) (b : Nat) (ha : b < 4) (n : Nm.D.Nm) (t : D.Tg) (hn : Nm.D.right n = true) (w : World) :
  Calls Tryz.prog 116 #[.int .i64 5, .int .i64 (q : Int), .int .i64 (b : Int), .agg (Nm.nc n), .agg (nc t)] w fun e w' => e = .returned (.tuple #[.agg (kS.v (D.mkK 5 q b n D.zero)), .int .i64 0]) ∧ Below w.heap.size w w' := by
 obtain ⟨W0, hW0⟩ : ∃ W, ((w.alloc (.cells (Nm.nc n) 33)).alloc (.cells (nc t) 37)).alloc (.cells z25 39) = W := ⟨_, rfl⟩
 have f0 : Nm.rd W0 ⟨w.heap.size, 0, none⟩ = some n := by rw [← hW0]; exact Nm.rd_on (Nm.rd_on (Nm.rd_new w _ _ n rfl) (below_alloc_ _ _)) (below_alloc_ _ _)
 have g0 : rd W0 ⟨w.heap.size + 1, 0, none⟩ = some t := by rw [← hW0]; exact rd_on (rd_new _ _ _ t (by simp)) (below_alloc_ _ _)
 have k0 : Shp.tn 25 W0 (w.heap.size + 2) = true := by rw [← hW0]; exact Shp.tn_new _ _ _ _ _ (by simp) rfl
 have s0 : w.heap.size + 2 < W0.heap.size := by rw [← hW0]; simp
 have z0 : Below w.heap.size w W0 := by rw [← hW0]; exact (((Below.refl _ _).alloc (Nat.le_refl _) _).alloc (by simp) _).alloc (by simp; omega) _
 have CU := Lib.hid (fun w => (show Calls Tryz.prog 145 #[.int .i64 5] w fun e w' => e = .returned (.tuple #[.agg #[.int .i64 4, .bool true, .bool false], .bool true]) ∧ Below w.heap.size w w' from useOf_any 5 w))
 have CP := Lib.hid (fun w => (show Calls Tryz.prog 146 #[.int .i64 (q : Int), .int .i64 4] w fun e w' => e = .returned (.bool true) ∧ w = w' from by have := below_num (q : Int) 4 w; rwa [decide_eq_true (by omega)] at this))
 have CA := Lib.hid (fun w => (show Calls Tryz.prog 146 #[.int .i64 (b : Int), .int .i64 4] w fun e w' => e = .returned (.bool true) ∧ w = w' from by have := below_num (b : Int) 4 w; rwa [decide_eq_true (by omega)] at this))
 have CN := Lib.hid (fun w => (show Calls Tryz.prog 147 #[.agg (Nm.nc n)] w fun e w' => e = .returned (.bool true) ∧ Below w.heap.size w w' from by have := Nm.right_any n w; rwa [hn] at this))
 have hb : ∀ W, (bdk #[(0, .int .u8 5), (1, .int .u8 (q : Int))]).run Tryz.prog W = .ok (.agg (kS.v (D.mkK 5 q 0 Nm.D.zero D.zero))) W := fun W => run_bdk_2 W 5 q (by omega) (by omega)
 have hq : q % 256 = q := Nat.mod_eq_of_lt (by omega)
 have hqi : (q : Int) % 256 = q := by omega
 have hbi : (b : Int) % 256 = b := by omega
 have hs := fun (n : Nm.D.Nm) (t : D.Tg) => kset_a 5 q 0 n t b (by omega)
 clear cT hp ha hn
 go_enter Tryz.func116, Tryz.ntmps116
 unfold z25 at hW0
 go_wp2_with fail
 try rw [hW0]
 clear hW0
 go_wp2_with (go_at_call 145; (with_reducible refine (CU.out _).mono ?_); rintro e w1 ⟨rfl, b1⟩; have k0 := Shp.tn_on k0 b1; have s1 := Nat.lt_of_lt_of_le s0 b1.size; have z1 := below_up z0 z0.size b1; have f0 := Nm.rd_on f0 b1; have g0 := rd_on g0 b1)
 obtain ⟨W1, hW1⟩ : ∃ W, w1.alloc (.cells #[.int .i64 4, .bool true, .bool false] 268) = W := ⟨_, rfl⟩
 have B1 := Blk.new w1 268 #[.int .i64 4, .bool true, .bool false]
 have k1 := Shp.tn_on k0 (below_alloc_ w1 (.cells #[.int .i64 4, .bool true, .bool false] 268))
 have f1 := Nm.rd_on f0 (below_alloc_ w1 (.cells #[.int .i64 4, .bool true, .bool false] 268))
 have g1 := rd_on g0 (below_alloc_ w1 (.cells #[.int .i64 4, .bool true, .bool false] 268))
 have z1' := z1.alloc z1.size (.cells #[.int .i64 4, .bool true, .bool false] 268)
 have s1' : w1.heap.size < (w1.alloc (.cells #[.int .i64 4, .bool true, .bool false] 268)).heap.size := by simp
 rw [hW1] at B1 k1 f1 g1 z1' s1'
 rw [hW1]
 clear hW1 k0 f0 g0 z1 s0 z0
 obtain ⟨m, hm⟩ : ∃ m, w1.heap.size = m := ⟨_, rfl⟩
 rw [hm] at B1 s1 s1'
 rw [hm]
 clear hm b1
 have q1 : w.heap.size + 2 < W1.heap.size := by omega
 have r1 : w.heap.size + 1 < W1.heap.size := by omega
 have t1 : w.heap.size < W1.heap.size := by omega
 have u0 := B1.c 0
 have u1 := B1.c 1
 have u2 := B1.c 2
 simp at u0 u1 u2
 go_wp2_with (first
  | (go_at_call 146; (with_reducible refine (CP.out _).mono ?_); rintro e w2 ⟨rfl, rfl⟩)
  | (go_at_call 146; (with_reducible refine (CA.out _).mono ?_); rintro e w3 ⟨rfl, rfl⟩)
  | (go_at_call 147; (with_reducible refine (CN.out _).mono ?_); rintro e w4 ⟨rfl, b4⟩; have B4 := B1.on b4; have k4 := Shp.tn_on k1 b4; have f4 := Nm.rd_on f1 b4; have g4 := rd_on g1 b4; have z4' := below_up z1' z1'.size b4; have s4' := Nat.lt_of_lt_of_le s1' b4.size; have q4 := Nat.lt_of_lt_of_le q1 b4.size; have r4 := Nat.lt_of_lt_of_le r1 b4.size; have t4 := Nat.lt_of_lt_of_le t1 b4.size; have v0 := B4.c 0; have v1 := B4.c 1; have v2 := B4.c 2; simp at v0 v1 v2))
 have hset := Shp.rd_set (S := kS) (w4.alloc (.cells (kS.v (D.mkK 5 q b n D.zero)) 39)) (w.heap.size + 2) (D.mkK 5 q b n D.zero) (Shp.tn_on k4 (below_alloc_ _ _))
 have z9 := below_setRow (z4'.alloc z4'.size (.cells (kS.v (D.mkK 5 q b n D.zero)) 39)) (g := w.heap.size + 2) (by omega) (kS.v (D.mkK 5 q b n D.zero))
 exact bodyPost_ret (v := .tuple #[.agg (kS.v (D.mkK 5 q b n D.zero)), .int .i64 0]) (by rw [results_cell_tmp rfl]; simp [asAddr, Result.andThen, lvk_of hset]) rfl ⟨rfl, z9⟩

set_option maxHeartbeats 4000000 in
theorem kof_p6 (cT : ∀ (x : D.Tg) (w : World), Calls Tryz.prog 148 #[.agg (nc x)] w fun e w' => e = .returned (.bool (D.right x)) ∧ Below w.heap.size w w') (p : Int) (hp : ¬ (0 ≤ p ∧ p < 4)) (a : Int) (n : Nm.D.Nm) (t : D.Tg) (w : World) :
  Calls Tryz.prog 116 #[.int .i64 6, .int .i64 p, .int .i64 a, .agg (Nm.nc n), .agg (nc t)] w fun e w' => e = .returned (.tuple #[.agg (kS.v D.zK), .int .i64 5]) ∧ Below w.heap.size w w' := by
 obtain ⟨W0, hW0⟩ : ∃ W, ((w.alloc (.cells (Nm.nc n) 33)).alloc (.cells (nc t) 37)).alloc (.cells z25 39) = W := ⟨_, rfl⟩
 have f0 : Nm.rd W0 ⟨w.heap.size, 0, none⟩ = some n := by rw [← hW0]; exact Nm.rd_on (Nm.rd_on (Nm.rd_new w _ _ n rfl) (below_alloc_ _ _)) (below_alloc_ _ _)
 have g0 : rd W0 ⟨w.heap.size + 1, 0, none⟩ = some t := by rw [← hW0]; exact rd_on (rd_new _ _ _ t (by simp)) (below_alloc_ _ _)
 have k0 : Shp.tn 25 W0 (w.heap.size + 2) = true := by rw [← hW0]; exact Shp.tn_new _ _ _ _ _ (by simp) rfl
 have s0 : w.heap.size + 2 < W0.heap.size := by rw [← hW0]; simp
 have z0 : Below w.heap.size w W0 := by rw [← hW0]; exact (((Below.refl _ _).alloc (Nat.le_refl _) _).alloc (by simp) _).alloc (by simp; omega) _
 have CU := Lib.hid (fun w => (show Calls Tryz.prog 145 #[.int .i64 6] w fun e w' => e = .returned (.tuple #[.agg #[.int .i64 4, .bool true, .bool true], .bool true]) ∧ Below w.heap.size w w' from useOf_any 6 w))
 have CP := Lib.hid (fun w => (show Calls Tryz.prog 146 #[.int .i64 p, .int .i64 4] w fun e w' => e = .returned (.bool false) ∧ w = w' from by have := below_num p 4 w; rwa [decide_eq_false (by omega)] at this))
 clear cT hp
 go_enter Tryz.func116, Tryz.ntmps116
 unfold z25 at hW0
 go_wp2_with fail
 try rw [hW0]
 clear hW0
 go_wp2_with (go_at_call 145; (with_reducible refine (CU.out _).mono ?_); rintro e w1 ⟨rfl, b1⟩; have k0 := Shp.tn_on k0 b1; have s1 := Nat.lt_of_lt_of_le s0 b1.size; have z1 := below_up z0 z0.size b1; have f0 := Nm.rd_on f0 b1; have g0 := rd_on g0 b1)
 obtain ⟨W1, hW1⟩ : ∃ W, w1.alloc (.cells #[.int .i64 4, .bool true, .bool true] 268) = W := ⟨_, rfl⟩
 have B1 := Blk.new w1 268 #[.int .i64 4, .bool true, .bool true]
 have k1 := Shp.tn_on k0 (below_alloc_ w1 (.cells #[.int .i64 4, .bool true, .bool true] 268))
 have f1 := Nm.rd_on f0 (below_alloc_ w1 (.cells #[.int .i64 4, .bool true, .bool true] 268))
 have g1 := rd_on g0 (below_alloc_ w1 (.cells #[.int .i64 4, .bool true, .bool true] 268))
 have z1' := z1.alloc z1.size (.cells #[.int .i64 4, .bool true, .bool true] 268)
 have s1' : w1.heap.size < (w1.alloc (.cells #[.int .i64 4, .bool true, .bool true] 268)).heap.size := by simp
 rw [hW1] at B1 k1 f1 g1 z1' s1'
 rw [hW1]
 clear hW1 k0 f0 g0 z1 s0 z0
 obtain ⟨m, hm⟩ : ∃ m, w1.heap.size = m := ⟨_, rfl⟩
 rw [hm] at B1 s1 s1'
 rw [hm]
 clear hm b1
 have q1 : w.heap.size + 2 < W1.heap.size := by omega
 have r1 : w.heap.size + 1 < W1.heap.size := by omega
 have t1 : w.heap.size < W1.heap.size := by omega
 have u0 := B1.c 0
 have u1 := B1.c 1
 have u2 := B1.c 2
 simp at u0 u1 u2
 go_wp2_with (first
  | (go_at_call 146; (with_reducible refine (CP.out _).mono ?_); rintro e w2 ⟨rfl, rfl⟩))
 have hset := Shp.rd_set (S := kS) W1 (w.heap.size + 2) D.zK k1
 have z9 := below_setRow z1' (g := w.heap.size + 2) (by omega) (kS.v D.zK)
 exact bodyPost_ret (v := .tuple #[.agg (kS.v D.zK), .int .i64 5]) (by rw [results_cell_tmp rfl]; simp [asAddr, Result.andThen, lvk_of hset]) rfl ⟨rfl, z9⟩

set_option maxHeartbeats 4000000 in
theorem kof_a6 (cT : ∀ (x : D.Tg) (w : World), Calls Tryz.prog 148 #[.agg (nc x)] w fun e w' => e = .returned (.bool (D.right x)) ∧ Below w.heap.size w w') (q : Nat) (hp : q < 4) (a : Int) (ha : ¬ (0 ≤ a ∧ a < 4)) (n : Nm.D.Nm) (t : D.Tg) (w : World) :
  Calls Tryz.prog 116 #[.int .i64 6, .int .i64 (q : Int), .int .i64 a, .agg (Nm.nc n), .agg (nc t)] w fun e w' => e = .returned (.tuple #[.agg (kS.v D.zK), .int .i64 5]) ∧ Below w.heap.size w w' := by
 obtain ⟨W0, hW0⟩ : ∃ W, ((w.alloc (.cells (Nm.nc n) 33)).alloc (.cells (nc t) 37)).alloc (.cells z25 39) = W := ⟨_, rfl⟩
 have f0 : Nm.rd W0 ⟨w.heap.size, 0, none⟩ = some n := by rw [← hW0]; exact Nm.rd_on (Nm.rd_on (Nm.rd_new w _ _ n rfl) (below_alloc_ _ _)) (below_alloc_ _ _)
 have g0 : rd W0 ⟨w.heap.size + 1, 0, none⟩ = some t := by rw [← hW0]; exact rd_on (rd_new _ _ _ t (by simp)) (below_alloc_ _ _)
 have k0 : Shp.tn 25 W0 (w.heap.size + 2) = true := by rw [← hW0]; exact Shp.tn_new _ _ _ _ _ (by simp) rfl
 have s0 : w.heap.size + 2 < W0.heap.size := by rw [← hW0]; simp
 have z0 : Below w.heap.size w W0 := by rw [← hW0]; exact (((Below.refl _ _).alloc (Nat.le_refl _) _).alloc (by simp) _).alloc (by simp; omega) _
 have CU := Lib.hid (fun w => (show Calls Tryz.prog 145 #[.int .i64 6] w fun e w' => e = .returned (.tuple #[.agg #[.int .i64 4, .bool true, .bool true], .bool true]) ∧ Below w.heap.size w w' from useOf_any 6 w))
 have CP := Lib.hid (fun w => (show Calls Tryz.prog 146 #[.int .i64 (q : Int), .int .i64 4] w fun e w' => e = .returned (.bool true) ∧ w = w' from by have := below_num (q : Int) 4 w; rwa [decide_eq_true (by omega)] at this))
 have CA := Lib.hid (fun w => (show Calls Tryz.prog 146 #[.int .i64 a, .int .i64 4] w fun e w' => e = .returned (.bool false) ∧ w = w' from by have := below_num a 4 w; rwa [decide_eq_false (by omega)] at this))
 have hb : ∀ W, (bdk #[(0, .int .u8 6), (1, .int .u8 (q : Int))]).run Tryz.prog W = .ok (.agg (kS.v (D.mkK 6 q 0 Nm.D.zero D.zero))) W := fun W => run_bdk_2 W 6 q (by omega) (by omega)
 have hq : q % 256 = q := Nat.mod_eq_of_lt (by omega)
 have hqi : (q : Int) % 256 = q := by omega
 clear cT hp ha
 go_enter Tryz.func116, Tryz.ntmps116
 unfold z25 at hW0
 go_wp2_with fail
 try rw [hW0]
 clear hW0
 go_wp2_with (go_at_call 145; (with_reducible refine (CU.out _).mono ?_); rintro e w1 ⟨rfl, b1⟩; have k0 := Shp.tn_on k0 b1; have s1 := Nat.lt_of_lt_of_le s0 b1.size; have z1 := below_up z0 z0.size b1; have f0 := Nm.rd_on f0 b1; have g0 := rd_on g0 b1)
 obtain ⟨W1, hW1⟩ : ∃ W, w1.alloc (.cells #[.int .i64 4, .bool true, .bool true] 268) = W := ⟨_, rfl⟩
 have B1 := Blk.new w1 268 #[.int .i64 4, .bool true, .bool true]
 have k1 := Shp.tn_on k0 (below_alloc_ w1 (.cells #[.int .i64 4, .bool true, .bool true] 268))
 have f1 := Nm.rd_on f0 (below_alloc_ w1 (.cells #[.int .i64 4, .bool true, .bool true] 268))
 have g1 := rd_on g0 (below_alloc_ w1 (.cells #[.int .i64 4, .bool true, .bool true] 268))
 have z1' := z1.alloc z1.size (.cells #[.int .i64 4, .bool true, .bool true] 268)
 have s1' : w1.heap.size < (w1.alloc (.cells #[.int .i64 4, .bool true, .bool true] 268)).heap.size := by simp
 rw [hW1] at B1 k1 f1 g1 z1' s1'
 rw [hW1]
 clear hW1 k0 f0 g0 z1 s0 z0
 obtain ⟨m, hm⟩ : ∃ m, w1.heap.size = m := ⟨_, rfl⟩
 rw [hm] at B1 s1 s1'
 rw [hm]
 clear hm b1
 have q1 : w.heap.size + 2 < W1.heap.size := by omega
 have r1 : w.heap.size + 1 < W1.heap.size := by omega
 have t1 : w.heap.size < W1.heap.size := by omega
 have u0 := B1.c 0
 have u1 := B1.c 1
 have u2 := B1.c 2
 simp at u0 u1 u2
 go_wp2_with (first
  | (go_at_call 146; (with_reducible refine (CP.out _).mono ?_); rintro e w2 ⟨rfl, rfl⟩)
  | (go_at_call 146; (with_reducible refine (CA.out _).mono ?_); rintro e w3 ⟨rfl, rfl⟩))
 have hset := Shp.rd_set (S := kS) W1 (w.heap.size + 2) D.zK k1
 have z9 := below_setRow z1' (g := w.heap.size + 2) (by omega) (kS.v D.zK)
 exact bodyPost_ret (v := .tuple #[.agg (kS.v D.zK), .int .i64 5]) (by rw [results_cell_tmp rfl]; simp [asAddr, Result.andThen, lvk_of hset]) rfl ⟨rfl, z9⟩

set_option maxHeartbeats 4000000 in
theorem kof_n6 (cT : ∀ (x : D.Tg) (w : World), Calls Tryz.prog 148 #[.agg (nc x)] w fun e w' => e = .returned (.bool (D.right x)) ∧ Below w.heap.size w w') (q : Nat) (hp : q < 4) (b : Nat) (ha : b < 4) (n : Nm.D.Nm) (t : D.Tg) (hn : Nm.D.right n = false) (w : World) :
  Calls Tryz.prog 116 #[.int .i64 6, .int .i64 (q : Int), .int .i64 (b : Int), .agg (Nm.nc n), .agg (nc t)] w fun e w' => e = .returned (.tuple #[.agg (kS.v D.zK), .int .i64 15]) ∧ Below w.heap.size w w' := by
 obtain ⟨W0, hW0⟩ : ∃ W, ((w.alloc (.cells (Nm.nc n) 33)).alloc (.cells (nc t) 37)).alloc (.cells z25 39) = W := ⟨_, rfl⟩
 have f0 : Nm.rd W0 ⟨w.heap.size, 0, none⟩ = some n := by rw [← hW0]; exact Nm.rd_on (Nm.rd_on (Nm.rd_new w _ _ n rfl) (below_alloc_ _ _)) (below_alloc_ _ _)
 have g0 : rd W0 ⟨w.heap.size + 1, 0, none⟩ = some t := by rw [← hW0]; exact rd_on (rd_new _ _ _ t (by simp)) (below_alloc_ _ _)
 have k0 : Shp.tn 25 W0 (w.heap.size + 2) = true := by rw [← hW0]; exact Shp.tn_new _ _ _ _ _ (by simp) rfl
 have s0 : w.heap.size + 2 < W0.heap.size := by rw [← hW0]; simp
 have z0 : Below w.heap.size w W0 := by rw [← hW0]; exact (((Below.refl _ _).alloc (Nat.le_refl _) _).alloc (by simp) _).alloc (by simp; omega) _
 have CU := Lib.hid (fun w => (show Calls Tryz.prog 145 #[.int .i64 6] w fun e w' => e = .returned (.tuple #[.agg #[.int .i64 4, .bool true, .bool true], .bool true]) ∧ Below w.heap.size w w' from useOf_any 6 w))
 have CP := Lib.hid (fun w => (show Calls Tryz.prog 146 #[.int .i64 (q : Int), .int .i64 4] w fun e w' => e = .returned (.bool true) ∧ w = w' from by have := below_num (q : Int) 4 w; rwa [decide_eq_true (by omega)] at this))
 have CA := Lib.hid (fun w => (show Calls Tryz.prog 146 #[.int .i64 (b : Int), .int .i64 4] w fun e w' => e = .returned (.bool true) ∧ w = w' from by have := below_num (b : Int) 4 w; rwa [decide_eq_true (by omega)] at this))
 have CN := Lib.hid (fun w => (show Calls Tryz.prog 147 #[.agg (Nm.nc n)] w fun e w' => e = .returned (.bool false) ∧ Below w.heap.size w w' from by have := Nm.right_any n w; rwa [hn] at this))
 have hb : ∀ W, (bdk #[(0, .int .u8 6), (1, .int .u8 (q : Int))]).run Tryz.prog W = .ok (.agg (kS.v (D.mkK 6 q 0 Nm.D.zero D.zero))) W := fun W => run_bdk_2 W 6 q (by omega) (by omega)
 have hq : q % 256 = q := Nat.mod_eq_of_lt (by omega)
 have hqi : (q : Int) % 256 = q := by omega
 have hbi : (b : Int) % 256 = b := by omega
 have hs := fun (n : Nm.D.Nm) (t : D.Tg) => kset_a 6 q 0 n t b (by omega)
 clear cT hp ha hn
 go_enter Tryz.func116, Tryz.ntmps116
 unfold z25 at hW0
 go_wp2_with fail
 try rw [hW0]
 clear hW0
 go_wp2_with (go_at_call 145; (with_reducible refine (CU.out _).mono ?_); rintro e w1 ⟨rfl, b1⟩; have k0 := Shp.tn_on k0 b1; have s1 := Nat.lt_of_lt_of_le s0 b1.size; have z1 := below_up z0 z0.size b1; have f0 := Nm.rd_on f0 b1; have g0 := rd_on g0 b1)
 obtain ⟨W1, hW1⟩ : ∃ W, w1.alloc (.cells #[.int .i64 4, .bool true, .bool true] 268) = W := ⟨_, rfl⟩
 have B1 := Blk.new w1 268 #[.int .i64 4, .bool true, .bool true]
 have k1 := Shp.tn_on k0 (below_alloc_ w1 (.cells #[.int .i64 4, .bool true, .bool true] 268))
 have f1 := Nm.rd_on f0 (below_alloc_ w1 (.cells #[.int .i64 4, .bool true, .bool true] 268))
 have g1 := rd_on g0 (below_alloc_ w1 (.cells #[.int .i64 4, .bool true, .bool true] 268))
 have z1' := z1.alloc z1.size (.cells #[.int .i64 4, .bool true, .bool true] 268)
 have s1' : w1.heap.size < (w1.alloc (.cells #[.int .i64 4, .bool true, .bool true] 268)).heap.size := by simp
 rw [hW1] at B1 k1 f1 g1 z1' s1'
 rw [hW1]
 clear hW1 k0 f0 g0 z1 s0 z0
 obtain ⟨m, hm⟩ : ∃ m, w1.heap.size = m := ⟨_, rfl⟩
 rw [hm] at B1 s1 s1'
 rw [hm]
 clear hm b1
 have q1 : w.heap.size + 2 < W1.heap.size := by omega
 have r1 : w.heap.size + 1 < W1.heap.size := by omega
 have t1 : w.heap.size < W1.heap.size := by omega
 have u0 := B1.c 0
 have u1 := B1.c 1
 have u2 := B1.c 2
 simp at u0 u1 u2
 go_wp2_with (first
  | (go_at_call 146; (with_reducible refine (CP.out _).mono ?_); rintro e w2 ⟨rfl, rfl⟩)
  | (go_at_call 146; (with_reducible refine (CA.out _).mono ?_); rintro e w3 ⟨rfl, rfl⟩)
  | (go_at_call 147; (with_reducible refine (CN.out _).mono ?_); rintro e w4 ⟨rfl, b4⟩; have B4 := B1.on b4; have k4 := Shp.tn_on k1 b4; have f4 := Nm.rd_on f1 b4; have g4 := rd_on g1 b4; have z4' := below_up z1' z1'.size b4; have s4' := Nat.lt_of_lt_of_le s1' b4.size; have q4 := Nat.lt_of_lt_of_le q1 b4.size; have r4 := Nat.lt_of_lt_of_le r1 b4.size; have t4 := Nat.lt_of_lt_of_le t1 b4.size; have v0 := B4.c 0; have v1 := B4.c 1; have v2 := B4.c 2; simp at v0 v1 v2))
 have hset := Shp.rd_set (S := kS) w4 (w.heap.size + 2) D.zK k4
 have z9 := below_setRow z4' (g := w.heap.size + 2) (by omega) (kS.v D.zK)
 exact bodyPost_ret (v := .tuple #[.agg (kS.v D.zK), .int .i64 15]) (by rw [results_cell_tmp rfl]; simp [asAddr, Result.andThen, lvk_of hset]) rfl ⟨rfl, z9⟩

set_option maxHeartbeats 4000000 in
theorem kof_z6 (cT : ∀ (x : D.Tg) (w : World), Calls Tryz.prog 148 #[.agg (nc x)] w fun e w' => e = .returned (.bool (D.right x)) ∧ Below w.heap.size w w') (q : Nat) (hp : q < 4) (b : Nat) (ha : b < 4) (n : Nm.D.Nm) (t : D.Tg) (hn : Nm.D.right n = true) (ht : sm t D.zero = true) (w : World) :
  Calls Tryz.prog 116 #[.int .i64 6, .int .i64 (q : Int), .int .i64 (b : Int), .agg (Nm.nc n), .agg (nc t)] w fun e w' => e = .returned (.tuple #[.agg (kS.v D.zK), .int .i64 14]) ∧ Below w.heap.size w w' := by
 obtain ⟨W0, hW0⟩ : ∃ W, ((w.alloc (.cells (Nm.nc n) 33)).alloc (.cells (nc t) 37)).alloc (.cells z25 39) = W := ⟨_, rfl⟩
 have f0 : Nm.rd W0 ⟨w.heap.size, 0, none⟩ = some n := by rw [← hW0]; exact Nm.rd_on (Nm.rd_on (Nm.rd_new w _ _ n rfl) (below_alloc_ _ _)) (below_alloc_ _ _)
 have g0 : rd W0 ⟨w.heap.size + 1, 0, none⟩ = some t := by rw [← hW0]; exact rd_on (rd_new _ _ _ t (by simp)) (below_alloc_ _ _)
 have k0 : Shp.tn 25 W0 (w.heap.size + 2) = true := by rw [← hW0]; exact Shp.tn_new _ _ _ _ _ (by simp) rfl
 have s0 : w.heap.size + 2 < W0.heap.size := by rw [← hW0]; simp
 have z0 : Below w.heap.size w W0 := by rw [← hW0]; exact (((Below.refl _ _).alloc (Nat.le_refl _) _).alloc (by simp) _).alloc (by simp; omega) _
 have CU := Lib.hid (fun w => (show Calls Tryz.prog 145 #[.int .i64 6] w fun e w' => e = .returned (.tuple #[.agg #[.int .i64 4, .bool true, .bool true], .bool true]) ∧ Below w.heap.size w w' from useOf_any 6 w))
 have CP := Lib.hid (fun w => (show Calls Tryz.prog 146 #[.int .i64 (q : Int), .int .i64 4] w fun e w' => e = .returned (.bool true) ∧ w = w' from by have := below_num (q : Int) 4 w; rwa [decide_eq_true (by omega)] at this))
 have CA := Lib.hid (fun w => (show Calls Tryz.prog 146 #[.int .i64 (b : Int), .int .i64 4] w fun e w' => e = .returned (.bool true) ∧ w = w' from by have := below_num (b : Int) 4 w; rwa [decide_eq_true (by omega)] at this))
 have CN := Lib.hid (fun w => (show Calls Tryz.prog 147 #[.agg (Nm.nc n)] w fun e w' => e = .returned (.bool true) ∧ Below w.heap.size w w' from by have := Nm.right_any n w; rwa [hn] at this))
 have hb : ∀ W, (bdk #[(0, .int .u8 6), (1, .int .u8 (q : Int))]).run Tryz.prog W = .ok (.agg (kS.v (D.mkK 6 q 0 Nm.D.zero D.zero))) W := fun W => run_bdk_2 W 6 q (by omega) (by omega)
 have hq : q % 256 = q := Nat.mod_eq_of_lt (by omega)
 have hqi : (q : Int) % 256 = q := by omega
 have hbi : (b : Int) % 256 = b := by omega
 have hs := fun (n : Nm.D.Nm) (t : D.Tg) => kset_a 6 q 0 n t b (by omega)
 clear cT hp ha hn
 go_enter Tryz.func116, Tryz.ntmps116
 unfold z25 at hW0
 go_wp2_with fail
 try rw [hW0]
 clear hW0
 go_wp2_with (go_at_call 145; (with_reducible refine (CU.out _).mono ?_); rintro e w1 ⟨rfl, b1⟩; have k0 := Shp.tn_on k0 b1; have s1 := Nat.lt_of_lt_of_le s0 b1.size; have z1 := below_up z0 z0.size b1; have f0 := Nm.rd_on f0 b1; have g0 := rd_on g0 b1)
 obtain ⟨W1, hW1⟩ : ∃ W, w1.alloc (.cells #[.int .i64 4, .bool true, .bool true] 268) = W := ⟨_, rfl⟩
 have B1 := Blk.new w1 268 #[.int .i64 4, .bool true, .bool true]
 have k1 := Shp.tn_on k0 (below_alloc_ w1 (.cells #[.int .i64 4, .bool true, .bool true] 268))
 have f1 := Nm.rd_on f0 (below_alloc_ w1 (.cells #[.int .i64 4, .bool true, .bool true] 268))
 have g1 := rd_on g0 (below_alloc_ w1 (.cells #[.int .i64 4, .bool true, .bool true] 268))
 have z1' := z1.alloc z1.size (.cells #[.int .i64 4, .bool true, .bool true] 268)
 have s1' : w1.heap.size < (w1.alloc (.cells #[.int .i64 4, .bool true, .bool true] 268)).heap.size := by simp
 rw [hW1] at B1 k1 f1 g1 z1' s1'
 rw [hW1]
 clear hW1 k0 f0 g0 z1 s0 z0
 obtain ⟨m, hm⟩ : ∃ m, w1.heap.size = m := ⟨_, rfl⟩
 rw [hm] at B1 s1 s1'
 rw [hm]
 clear hm b1
 have q1 : w.heap.size + 2 < W1.heap.size := by omega
 have r1 : w.heap.size + 1 < W1.heap.size := by omega
 have t1 : w.heap.size < W1.heap.size := by omega
 have u0 := B1.c 0
 have u1 := B1.c 1
 have u2 := B1.c 2
 simp at u0 u1 u2
 go_wp2_with (first
  | (go_at_call 146; (with_reducible refine (CP.out _).mono ?_); rintro e w2 ⟨rfl, rfl⟩)
  | (go_at_call 146; (with_reducible refine (CA.out _).mono ?_); rintro e w3 ⟨rfl, rfl⟩)
  | (go_at_call 147; (with_reducible refine (CN.out _).mono ?_); rintro e w4 ⟨rfl, b4⟩; have B4 := B1.on b4; have k4 := Shp.tn_on k1 b4; have f4 := Nm.rd_on f1 b4; have g4 := rd_on g1 b4; have z4' := below_up z1' z1'.size b4; have s4' := Nat.lt_of_lt_of_le s1' b4.size; have q4 := Nat.lt_of_lt_of_le q1 b4.size; have r4 := Nat.lt_of_lt_of_le r1 b4.size; have t4 := Nat.lt_of_lt_of_le t1 b4.size; have v0 := B4.c 0; have v1 := B4.c 1; have v2 := B4.c 2; simp at v0 v1 v2))
 have hset := Shp.rd_set (S := kS) w4 (w.heap.size + 2) D.zK k4
 have z9 := below_setRow z4' (g := w.heap.size + 2) (by omega) (kS.v D.zK)
 exact bodyPost_ret (v := .tuple #[.agg (kS.v D.zK), .int .i64 14]) (by rw [results_cell_tmp rfl]; simp [asAddr, Result.andThen, lvk_of hset]) rfl ⟨rfl, z9⟩

set_option maxHeartbeats 4000000 in
theorem kof_w6 (cT : ∀ (x : D.Tg) (w : World), Calls Tryz.prog 148 #[.agg (nc x)] w fun e w' => e = .returned (.bool (D.right x)) ∧ Below w.heap.size w w') (q : Nat) (hp : q < 4) (b : Nat) (ha : b < 4) (n : Nm.D.Nm) (t : D.Tg) (hn : Nm.D.right n = true) (ht : sm t D.zero = false) (hr : D.right t = false) (w : World) :
  Calls Tryz.prog 116 #[.int .i64 6, .int .i64 (q : Int), .int .i64 (b : Int), .agg (Nm.nc n), .agg (nc t)] w fun e w' => e = .returned (.tuple #[.agg (kS.v D.zK), .int .i64 14]) ∧ Below w.heap.size w w' := by
 obtain ⟨W0, hW0⟩ : ∃ W, ((w.alloc (.cells (Nm.nc n) 33)).alloc (.cells (nc t) 37)).alloc (.cells z25 39) = W := ⟨_, rfl⟩
 have f0 : Nm.rd W0 ⟨w.heap.size, 0, none⟩ = some n := by rw [← hW0]; exact Nm.rd_on (Nm.rd_on (Nm.rd_new w _ _ n rfl) (below_alloc_ _ _)) (below_alloc_ _ _)
 have g0 : rd W0 ⟨w.heap.size + 1, 0, none⟩ = some t := by rw [← hW0]; exact rd_on (rd_new _ _ _ t (by simp)) (below_alloc_ _ _)
 have k0 : Shp.tn 25 W0 (w.heap.size + 2) = true := by rw [← hW0]; exact Shp.tn_new _ _ _ _ _ (by simp) rfl
 have s0 : w.heap.size + 2 < W0.heap.size := by rw [← hW0]; simp
 have z0 : Below w.heap.size w W0 := by rw [← hW0]; exact (((Below.refl _ _).alloc (Nat.le_refl _) _).alloc (by simp) _).alloc (by simp; omega) _
 have CU := Lib.hid (fun w => (show Calls Tryz.prog 145 #[.int .i64 6] w fun e w' => e = .returned (.tuple #[.agg #[.int .i64 4, .bool true, .bool true], .bool true]) ∧ Below w.heap.size w w' from useOf_any 6 w))
 have CP := Lib.hid (fun w => (show Calls Tryz.prog 146 #[.int .i64 (q : Int), .int .i64 4] w fun e w' => e = .returned (.bool true) ∧ w = w' from by have := below_num (q : Int) 4 w; rwa [decide_eq_true (by omega)] at this))
 have CA := Lib.hid (fun w => (show Calls Tryz.prog 146 #[.int .i64 (b : Int), .int .i64 4] w fun e w' => e = .returned (.bool true) ∧ w = w' from by have := below_num (b : Int) 4 w; rwa [decide_eq_true (by omega)] at this))
 have CN := Lib.hid (fun w => (show Calls Tryz.prog 147 #[.agg (Nm.nc n)] w fun e w' => e = .returned (.bool true) ∧ Below w.heap.size w w' from by have := Nm.right_any n w; rwa [hn] at this))
 have CT := Lib.hid (fun w => (show Calls Tryz.prog 148 #[.agg (nc t)] w fun e w' => e = .returned (.bool false) ∧ Below w.heap.size w w' from by have := cT t w; rwa [hr] at this))
 have hb : ∀ W, (bdk #[(0, .int .u8 6), (1, .int .u8 (q : Int))]).run Tryz.prog W = .ok (.agg (kS.v (D.mkK 6 q 0 Nm.D.zero D.zero))) W := fun W => run_bdk_2 W 6 q (by omega) (by omega)
 have hq : q % 256 = q := Nat.mod_eq_of_lt (by omega)
 have hqi : (q : Int) % 256 = q := by omega
 have hbi : (b : Int) % 256 = b := by omega
 have hs := fun (n : Nm.D.Nm) (t : D.Tg) => kset_a 6 q 0 n t b (by omega)
 clear cT hp ha hn hr
 go_enter Tryz.func116, Tryz.ntmps116
 unfold z25 at hW0
 go_wp2_with fail
 try rw [hW0]
 clear hW0
 go_wp2_with (go_at_call 145; (with_reducible refine (CU.out _).mono ?_); rintro e w1 ⟨rfl, b1⟩; have k0 := Shp.tn_on k0 b1; have s1 := Nat.lt_of_lt_of_le s0 b1.size; have z1 := below_up z0 z0.size b1; have f0 := Nm.rd_on f0 b1; have g0 := rd_on g0 b1)
 obtain ⟨W1, hW1⟩ : ∃ W, w1.alloc (.cells #[.int .i64 4, .bool true, .bool true] 268) = W := ⟨_, rfl⟩
 have B1 := Blk.new w1 268 #[.int .i64 4, .bool true, .bool true]
 have k1 := Shp.tn_on k0 (below_alloc_ w1 (.cells #[.int .i64 4, .bool true, .bool true] 268))
 have f1 := Nm.rd_on f0 (below_alloc_ w1 (.cells #[.int .i64 4, .bool true, .bool true] 268))
 have g1 := rd_on g0 (below_alloc_ w1 (.cells #[.int .i64 4, .bool true, .bool true] 268))
 have z1' := z1.alloc z1.size (.cells #[.int .i64 4, .bool true, .bool true] 268)
 have s1' : w1.heap.size < (w1.alloc (.cells #[.int .i64 4, .bool true, .bool true] 268)).heap.size := by simp
 rw [hW1] at B1 k1 f1 g1 z1' s1'
 rw [hW1]
 clear hW1 k0 f0 g0 z1 s0 z0
 obtain ⟨m, hm⟩ : ∃ m, w1.heap.size = m := ⟨_, rfl⟩
 rw [hm] at B1 s1 s1'
 rw [hm]
 clear hm b1
 have q1 : w.heap.size + 2 < W1.heap.size := by omega
 have r1 : w.heap.size + 1 < W1.heap.size := by omega
 have t1 : w.heap.size < W1.heap.size := by omega
 have u0 := B1.c 0
 have u1 := B1.c 1
 have u2 := B1.c 2
 simp at u0 u1 u2
 go_wp2_with (first
  | (go_at_call 146; (with_reducible refine (CP.out _).mono ?_); rintro e w2 ⟨rfl, rfl⟩)
  | (go_at_call 146; (with_reducible refine (CA.out _).mono ?_); rintro e w3 ⟨rfl, rfl⟩)
  | (go_at_call 147; (with_reducible refine (CN.out _).mono ?_); rintro e w4 ⟨rfl, b4⟩; have B4 := B1.on b4; have k4 := Shp.tn_on k1 b4; have f4 := Nm.rd_on f1 b4; have g4 := rd_on g1 b4; have z4' := below_up z1' z1'.size b4; have s4' := Nat.lt_of_lt_of_le s1' b4.size; have q4 := Nat.lt_of_lt_of_le q1 b4.size; have r4 := Nat.lt_of_lt_of_le r1 b4.size; have t4 := Nat.lt_of_lt_of_le t1 b4.size; have v0 := B4.c 0; have v1 := B4.c 1; have v2 := B4.c 2; simp at v0 v1 v2)
  | (go_at_call 148; (with_reducible refine (CT.out _).mono ?_); rintro e w5 ⟨rfl, b5⟩; have B5 := B4.on b5; have k5 := Shp.tn_on k4 b5; have f5 := Nm.rd_on f4 b5; have g5 := rd_on g4 b5; have z5' := below_up z4' z4'.size b5; have s5' := Nat.lt_of_lt_of_le s4' b5.size; have q5 := Nat.lt_of_lt_of_le q4 b5.size; have r5 := Nat.lt_of_lt_of_le r4 b5.size; have t5 := Nat.lt_of_lt_of_le t4 b5.size; have v0 := B5.c 0; have v1 := B5.c 1; have v2 := B5.c 2; simp at v0 v1 v2))
 have hset := Shp.rd_set (S := kS) w5 (w.heap.size + 2) D.zK k5
 have z9 := below_setRow z5' (g := w.heap.size + 2) (by omega) (kS.v D.zK)
 exact bodyPost_ret (v := .tuple #[.agg (kS.v D.zK), .int .i64 14]) (by rw [results_cell_tmp rfl]; simp [asAddr, Result.andThen, lvk_of hset]) rfl ⟨rfl, z9⟩

set_option maxHeartbeats 4000000 in
theorem kof_ok6 (cT : ∀ (x : D.Tg) (w : World), Calls Tryz.prog 148 #[.agg (nc x)] w fun e w' => e = .returned (.bool (D.right x)) ∧ Below w.heap.size w w') (q : Nat) (hp : q < 4) (b : Nat) (ha : b < 4) (n : Nm.D.Nm) (t : D.Tg) (hn : Nm.D.right n = true) (ht : sm t D.zero = false) (hr : D.right t = true) (w : World) :
  Calls Tryz.prog 116 #[.int .i64 6, .int .i64 (q : Int), .int .i64 (b : Int), .agg (Nm.nc n), .agg (nc t)] w fun e w' => e = .returned (.tuple #[.agg (kS.v (D.mkK 6 q b n t)), .int .i64 0]) ∧ Below w.heap.size w w' := by
 obtain ⟨W0, hW0⟩ : ∃ W, ((w.alloc (.cells (Nm.nc n) 33)).alloc (.cells (nc t) 37)).alloc (.cells z25 39) = W := ⟨_, rfl⟩
 have f0 : Nm.rd W0 ⟨w.heap.size, 0, none⟩ = some n := by rw [← hW0]; exact Nm.rd_on (Nm.rd_on (Nm.rd_new w _ _ n rfl) (below_alloc_ _ _)) (below_alloc_ _ _)
 have g0 : rd W0 ⟨w.heap.size + 1, 0, none⟩ = some t := by rw [← hW0]; exact rd_on (rd_new _ _ _ t (by simp)) (below_alloc_ _ _)
 have k0 : Shp.tn 25 W0 (w.heap.size + 2) = true := by rw [← hW0]; exact Shp.tn_new _ _ _ _ _ (by simp) rfl
 have s0 : w.heap.size + 2 < W0.heap.size := by rw [← hW0]; simp
 have z0 : Below w.heap.size w W0 := by rw [← hW0]; exact (((Below.refl _ _).alloc (Nat.le_refl _) _).alloc (by simp) _).alloc (by simp; omega) _
 have CU := Lib.hid (fun w => (show Calls Tryz.prog 145 #[.int .i64 6] w fun e w' => e = .returned (.tuple #[.agg #[.int .i64 4, .bool true, .bool true], .bool true]) ∧ Below w.heap.size w w' from useOf_any 6 w))
 have CP := Lib.hid (fun w => (show Calls Tryz.prog 146 #[.int .i64 (q : Int), .int .i64 4] w fun e w' => e = .returned (.bool true) ∧ w = w' from by have := below_num (q : Int) 4 w; rwa [decide_eq_true (by omega)] at this))
 have CA := Lib.hid (fun w => (show Calls Tryz.prog 146 #[.int .i64 (b : Int), .int .i64 4] w fun e w' => e = .returned (.bool true) ∧ w = w' from by have := below_num (b : Int) 4 w; rwa [decide_eq_true (by omega)] at this))
 have CN := Lib.hid (fun w => (show Calls Tryz.prog 147 #[.agg (Nm.nc n)] w fun e w' => e = .returned (.bool true) ∧ Below w.heap.size w w' from by have := Nm.right_any n w; rwa [hn] at this))
 have CT := Lib.hid (fun w => (show Calls Tryz.prog 148 #[.agg (nc t)] w fun e w' => e = .returned (.bool true) ∧ Below w.heap.size w w' from by have := cT t w; rwa [hr] at this))
 have hb : ∀ W, (bdk #[(0, .int .u8 6), (1, .int .u8 (q : Int))]).run Tryz.prog W = .ok (.agg (kS.v (D.mkK 6 q 0 Nm.D.zero D.zero))) W := fun W => run_bdk_2 W 6 q (by omega) (by omega)
 have hq : q % 256 = q := Nat.mod_eq_of_lt (by omega)
 have hqi : (q : Int) % 256 = q := by omega
 have hbi : (b : Int) % 256 = b := by omega
 have hs := fun (n : Nm.D.Nm) (t : D.Tg) => kset_a 6 q 0 n t b (by omega)
 clear cT hp ha hn hr
 go_enter Tryz.func116, Tryz.ntmps116
 unfold z25 at hW0
 go_wp2_with fail
 try rw [hW0]
 clear hW0
 go_wp2_with (go_at_call 145; (with_reducible refine (CU.out _).mono ?_); rintro e w1 ⟨rfl, b1⟩; have k0 := Shp.tn_on k0 b1; have s1 := Nat.lt_of_lt_of_le s0 b1.size; have z1 := below_up z0 z0.size b1; have f0 := Nm.rd_on f0 b1; have g0 := rd_on g0 b1)
 obtain ⟨W1, hW1⟩ : ∃ W, w1.alloc (.cells #[.int .i64 4, .bool true, .bool true] 268) = W := ⟨_, rfl⟩
 have B1 := Blk.new w1 268 #[.int .i64 4, .bool true, .bool true]
 have k1 := Shp.tn_on k0 (below_alloc_ w1 (.cells #[.int .i64 4, .bool true, .bool true] 268))
 have f1 := Nm.rd_on f0 (below_alloc_ w1 (.cells #[.int .i64 4, .bool true, .bool true] 268))
 have g1 := rd_on g0 (below_alloc_ w1 (.cells #[.int .i64 4, .bool true, .bool true] 268))
 have z1' := z1.alloc z1.size (.cells #[.int .i64 4, .bool true, .bool true] 268)
 have s1' : w1.heap.size < (w1.alloc (.cells #[.int .i64 4, .bool true, .bool true] 268)).heap.size := by simp
 rw [hW1] at B1 k1 f1 g1 z1' s1'
 rw [hW1]
 clear hW1 k0 f0 g0 z1 s0 z0
 obtain ⟨m, hm⟩ : ∃ m, w1.heap.size = m := ⟨_, rfl⟩
 rw [hm] at B1 s1 s1'
 rw [hm]
 clear hm b1
 have q1 : w.heap.size + 2 < W1.heap.size := by omega
 have r1 : w.heap.size + 1 < W1.heap.size := by omega
 have t1 : w.heap.size < W1.heap.size := by omega
 have u0 := B1.c 0
 have u1 := B1.c 1
 have u2 := B1.c 2
 simp at u0 u1 u2
 go_wp2_with (first
  | (go_at_call 146; (with_reducible refine (CP.out _).mono ?_); rintro e w2 ⟨rfl, rfl⟩)
  | (go_at_call 146; (with_reducible refine (CA.out _).mono ?_); rintro e w3 ⟨rfl, rfl⟩)
  | (go_at_call 147; (with_reducible refine (CN.out _).mono ?_); rintro e w4 ⟨rfl, b4⟩; have B4 := B1.on b4; have k4 := Shp.tn_on k1 b4; have f4 := Nm.rd_on f1 b4; have g4 := rd_on g1 b4; have z4' := below_up z1' z1'.size b4; have s4' := Nat.lt_of_lt_of_le s1' b4.size; have q4 := Nat.lt_of_lt_of_le q1 b4.size; have r4 := Nat.lt_of_lt_of_le r1 b4.size; have t4 := Nat.lt_of_lt_of_le t1 b4.size; have v0 := B4.c 0; have v1 := B4.c 1; have v2 := B4.c 2; simp at v0 v1 v2)
  | (go_at_call 148; (with_reducible refine (CT.out _).mono ?_); rintro e w5 ⟨rfl, b5⟩; have B5 := B4.on b5; have k5 := Shp.tn_on k4 b5; have f5 := Nm.rd_on f4 b5; have g5 := rd_on g4 b5; have z5' := below_up z4' z4'.size b5; have s5' := Nat.lt_of_lt_of_le s4' b5.size; have q5 := Nat.lt_of_lt_of_le q4 b5.size; have r5 := Nat.lt_of_lt_of_le r4 b5.size; have t5 := Nat.lt_of_lt_of_le t4 b5.size; have v0 := B5.c 0; have v1 := B5.c 1; have v2 := B5.c 2; simp at v0 v1 v2))
 have hset := Shp.rd_set (S := kS) (w5.alloc (.cells (kS.v (D.mkK 6 q b n t)) 39)) (w.heap.size + 2) (D.mkK 6 q b n t) (Shp.tn_on k5 (below_alloc_ _ _))
 have z9 := below_setRow (z5'.alloc z5'.size (.cells (kS.v (D.mkK 6 q b n t)) 39)) (g := w.heap.size + 2) (by omega) (kS.v (D.mkK 6 q b n t))
 exact bodyPost_ret (v := .tuple #[.agg (kS.v (D.mkK 6 q b n t)), .int .i64 0]) (by rw [results_cell_tmp rfl]; simp [asAddr, Result.andThen, lvk_of hset]) rfl ⟨rfl, z9⟩

namespace D
theorem kof_k {k p a : Int} {n : Nm.D.Nm} {t : Tg} (h : ¬ (1 ≤ k ∧ k ≤ 6)) : kof k p a n t = (zK, 16) := by
 have e : err k p a n t = 16 := by unfold err; rw [if_pos (by omega)]
 unfold kof; rw [e, if_neg (by decide)]
theorem kof_r {k p a : Int} {n : Nm.D.Nm} {t : Tg} (hk : 1 ≤ k ∧ k ≤ 6) (h : ¬ (0 ≤ p ∧ p < 4) ∨ (0 < ats k ∧ ¬ (0 ≤ a ∧ a < ats k))) : kof k p a n t = (zK, 5) := by
 have e : err k p a n t = 5 := by
  unfold err
  rw [if_neg (by omega), if_pos]
  rcases h with h | ⟨h, h'⟩
  ·exact .inl (by omega)
  ·exact .inr ⟨h, by omega⟩
 unfold kof; rw [e, if_neg (by decide)]
theorem kof_n {k p a : Int} {n : Nm.D.Nm} {t : Tg} (hk : 1 ≤ k ∧ k ≤ 6) (hp : 0 ≤ p ∧ p < 4) (ha : 0 < ats k → 0 ≤ a ∧ a < ats k) (hm : nmd k = true) (hn : Nm.D.right n = false) : kof k p a n t = (zK, 15) := by
 have e : err k p a n t = 15 := by
  unfold err
  rw [if_neg (by omega), if_neg, if_pos ⟨hm, hn⟩]
  rintro (h | ⟨h, h'⟩)
  ·omega
  ·have := ha h; omega
 unfold kof; rw [e, if_neg (by decide)]
theorem kof_t {k p a : Int} {n : Nm.D.Nm} {t : Tg} (hk : 1 ≤ k ∧ k ≤ 6) (hp : 0 ≤ p ∧ p < 4) (ha : 0 < ats k → 0 ≤ a ∧ a < ats k) (hn : nmd k = true → Nm.D.right n = true) (hm : tgd k = true) (ht : t = zero ∨ right t = false) : kof k p a n t = (zK, 14) := by
 have e : err k p a n t = 14 := by
  unfold err
  rw [if_neg (by omega), if_neg, if_neg, if_pos ⟨hm, ht⟩]
  ·rintro ⟨h, h'⟩; rw [hn h] at h'; cases h'
  ·rintro (h | ⟨h, h'⟩)
   ·omega
   ·have := ha h; omega
 unfold kof; rw [e, if_neg (by decide)]
theorem kof_ok {k p a : Int} {n : Nm.D.Nm} {t : Tg} (hk : 1 ≤ k ∧ k ≤ 6) (hp : 0 ≤ p ∧ p < 4) (ha : 0 < ats k → 0 ≤ a ∧ a < ats k) (hn : nmd k = true → Nm.D.right n = true) (ht : tgd k = true → t ≠ zero ∧ right t = true) : kof k p a n t = (mkI k p a n t, 0) := by
 have e : err k p a n t = 0 := err_of hk (by omega) ha hn ht
 unfold kof; rw [e, if_pos rfl]
end D
theorem sm_t {t u : D.Tg} (h : sm t u = true) : t = u := by simpa [sm] using h
theorem sm_f {t u : D.Tg} (h : sm t u = false) : t ≠ u := by simpa [sm] using h
theorem key_of_gen (cT : ∀ (x : D.Tg) (w : World), Calls Tryz.prog 148 #[.agg (nc x)] w fun e w' => e = .returned (.bool (D.right x)) ∧ Below w.heap.size w w') (k p a : Int) (n : Nm.D.Nm) (t : D.Tg) (w : World) :
  Calls Tryz.prog 116 #[.int .i64 k, .int .i64 p, .int .i64 a, .agg (Nm.nc n), .agg (nc t)] w fun e w' => e = .returned (.tuple #[.agg (kS.v (D.kof k p a n t).1), .int .i64 (D.kof k p a n t).2]) ∧ Below w.heap.size w w' := by
 by_cases hk : 1 ≤ k ∧ k ≤ 6
 ·by_cases hp : 0 ≤ p ∧ p < 4
  ·obtain ⟨q, rfl⟩ : ∃ q : Nat, p = q := ⟨p.toNat, by omega⟩
   rcases (isk k).1 hk with rfl | rfl | rfl | rfl | rfl | rfl
   ·rw [D.kof_ok hk hp (fun h => absurd h (by decide)) (fun h => by cases h) (fun h => by cases h)]; exact kof_ok1 cT q (by omega) a n t w
   ·by_cases ha : 0 ≤ a ∧ a < 16
    ·obtain ⟨b, rfl⟩ : ∃ b : Nat, a = b := ⟨a.toNat, by omega⟩
     rw [D.kof_ok hk hp (fun _ => ha) (fun h => by cases h) (fun h => by cases h)]; exact kof_ok2 cT q (by omega) b (by omega) n t w
    ·rw [D.kof_r hk (.inr ⟨by decide, ha⟩)]; exact kof_a2 cT q (by omega) a ha n t w
   ·cases hz : sm t D.zero
    ·cases hr : D.right t
     ·rw [D.kof_t hk hp (fun h => absurd h (by decide)) (fun h => by cases h) rfl (.inr hr)]; exact kof_w3 cT q (by omega) a n t hz hr w
     ·rw [D.kof_ok hk hp (fun h => absurd h (by decide)) (fun h => by cases h) (fun _ => ⟨sm_f hz, hr⟩)]; exact kof_ok3 cT q (by omega) a n t hz hr w
    ·rw [D.kof_t hk hp (fun h => absurd h (by decide)) (fun h => by cases h) rfl (.inl (sm_t hz))]; exact kof_z3 cT q (by omega) a n t hz w
   ·by_cases ha : 0 ≤ a ∧ a < 4
    ·obtain ⟨b, rfl⟩ : ∃ b : Nat, a = b := ⟨a.toNat, by omega⟩
     rw [D.kof_ok hk hp (fun _ => ha) (fun h => by cases h) (fun h => by cases h)]; exact kof_ok4 cT q (by omega) b (by omega) n t w
    ·rw [D.kof_r hk (.inr ⟨by decide, ha⟩)]; exact kof_a4 cT q (by omega) a ha n t w
   ·by_cases ha : 0 ≤ a ∧ a < 4
    ·obtain ⟨b, rfl⟩ : ∃ b : Nat, a = b := ⟨a.toNat, by omega⟩
     cases hn : Nm.D.right n
     ·rw [D.kof_n hk hp (fun _ => ha) rfl hn]; exact kof_n5 cT q (by omega) b (by omega) n t hn w
     ·rw [D.kof_ok hk hp (fun _ => ha) (fun _ => hn) (fun h => by cases h)]; exact kof_ok5 cT q (by omega) b (by omega) n t hn w
    ·rw [D.kof_r hk (.inr ⟨by decide, ha⟩)]; exact kof_a5 cT q (by omega) a ha n t w
   ·by_cases ha : 0 ≤ a ∧ a < 4
    ·obtain ⟨b, rfl⟩ : ∃ b : Nat, a = b := ⟨a.toNat, by omega⟩
     cases hn : Nm.D.right n
     ·rw [D.kof_n hk hp (fun _ => ha) rfl hn]; exact kof_n6 cT q (by omega) b (by omega) n t hn w
     ·cases hz : sm t D.zero
      ·cases hr : D.right t
       ·rw [D.kof_t hk hp (fun _ => ha) (fun _ => hn) rfl (.inr hr)]; exact kof_w6 cT q (by omega) b (by omega) n t hn hz hr w
       ·rw [D.kof_ok hk hp (fun _ => ha) (fun _ => hn) (fun _ => ⟨sm_f hz, hr⟩)]; exact kof_ok6 cT q (by omega) b (by omega) n t hn hz hr w
      ·rw [D.kof_t hk hp (fun _ => ha) (fun _ => hn) rfl (.inl (sm_t hz))]; exact kof_z6 cT q (by omega) b (by omega) n t hn hz w
    ·rw [D.kof_r hk (.inr ⟨by decide, ha⟩)]; exact kof_a6 cT q (by omega) a ha n t w
  ·rcases (isk k).1 hk with rfl | rfl | rfl | rfl | rfl | rfl
   ·rw [D.kof_r hk (.inl hp)]; exact kof_p1 cT p hp a n t w
   ·rw [D.kof_r hk (.inl hp)]; exact kof_p2 cT p hp a n t w
   ·rw [D.kof_r hk (.inl hp)]; exact kof_p3 cT p hp a n t w
   ·rw [D.kof_r hk (.inl hp)]; exact kof_p4 cT p hp a n t w
   ·rw [D.kof_r hk (.inl hp)]; exact kof_p5 cT p hp a n t w
   ·rw [D.kof_r hk (.inl hp)]; exact kof_p6 cT p hp a n t w
 ·rw [D.kof_k hk]; exact kof_none cT k hk p a n t w

end Go.Proofs.YtjlaffgbmcpldaaGreatDoor
