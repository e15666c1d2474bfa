/-
  Which bytes may stand in a name; the name of a text: the program's and the document's.
-/
import Derived.Test.YtgobbdfgjgjigaaGreatDoorARow
import Derived.Lib.ConvBytes
import Derived.Deep.RegionHeld3
import Derived.Deep.DrawnRows
import Derived.Laws.IdiomStrings
set_option linter.unusedVariables false
set_option linter.unusedSimpArgs false
set_option maxRecDepth 100000
namespace Go.Proofs.YtgobbdfgjgjigaaGreatDoor.Nm
open Go.RowKit
attribute [local go_sem ↓] Go.wp_at_zero Go.wp_at_succ ld_a ld_n st_a st_n eq_a eq_n ne_a ne_n lv_a lv_n
attribute [local go_sem] run_ld_a run_ld_n run_st_n run_eq_a run_eq_n run_ne_a run_ne_n run_lv_a run_lv_n st_z ne_z rd_new rd_old rd_drew rd_drewN

theorem letter_any (c : Nat) (w : World) : Calls Tryz.prog 106 #[.int .u8 c] w fun e w' => e = .returned (.bool (D.letB c)) ∧ w = w' := by
  go_enter Tryz.func106, Tryz.ntmps106
  go_wp2
  all_goals
    go_ret
    refine ⟨bool_of ?_, rfl⟩
    unfold D.letB
    rw [Bool.eq_iff_iff]
    simp
    omega
theorem may_any (c : Nat) (w : World) : Calls Tryz.prog 107 #[.int .u8 c] w fun e w' => e = .returned (.bool (D.mayB c)) ∧ w = w' := by
  have H := Lib.hid (letter_any c)
  obtain ⟨b, hb⟩ : ∃ b, D.letB c = b := ⟨_, rfl⟩
  rw [hb] at H
  have HB := Lib.hid hb
  clear hb
  cases b
  all_goals
    go_enter Tryz.func107, Tryz.ntmps107
    go_wp2_with (go_at_call 106; (with_reducible refine (H.out _).mono ?_); rintro e w' ⟨rfl, rfl⟩)
    all_goals
      go_ret
      refine ⟨bool_of ?_, rfl⟩
      unfold D.mayB
      rw [HB.out, Bool.eq_iff_iff]
      simp
      try omega

/-- So far each byte may stand. -/
structure Fine (t : List Nat) (k : Nat) : Prop where
  out : ∀ i b, i < k → t[i]? = some b → D.mayB b = true
theorem fine_first (t : List Nat) : Fine t 0 := ⟨fun i b h => absurd h (by omega)⟩
theorem fine_next {t : List Nat} {k b : Nat} (h : Fine t k) (hb : t[k]? = some b) (hm : D.mayB b = true) : Fine t (k + 1) := ⟨fun i c hi hc => by
  by_cases e : i = k
  · subst e
    rw [hb] at hc
    injection hc with hc
    subst hc
    exact hm
  · exact h.out i c (by omega) hc⟩
theorem fine_all {t : List Nat} {k : Nat} (h : Fine t k) (hk : t.length ≤ k) (h1 : 1 ≤ t.length) (h2 : t.length ≤ 12) (hl : D.letB (t.getD 0 0) = true) : D.isB t = true :=
  D.isB_iff.2 ⟨h1, h2, hl, fun c hc => by
    obtain ⟨i, hi, e⟩ := List.getElem_of_mem hc
    exact h.out i c (by omega) (by rw [List.getElem?_eq_getElem hi, e])⟩
theorem not_fine {t : List Nat} {k b : Nat} (hb : t[k]? = some b) (hm : D.mayB b = false) : D.isB t = false := by
  cases h : D.isB t
  · rfl
  · have := (D.isB_iff.1 h).2.2.2 b (List.mem_of_getElem? hb)
    rw [hm] at this; cases this

/-- What the conversion of a text to bytes lays. -/
theorem row_of_text (w : World) (s : ByteArray) (cap : Nat) (t : TypeId) (fr : Nat × Nat) : Row (w.alloc (.cells (bytesRow s cap) t fr)) (some ⟨w.heap.size, 0, none⟩) s.size (bys (D.ns s)) :=
  ⟨by rw [bys_len, D.ns_len], fun _ => ⟨_, rfl, by simp, fun j u hu => by
    have hj : j < s.data.size := by
      have := (List.getElem?_eq_some_iff.1 hu).1
      rw [bys_len, D.ns_len] at this
      exact this
    rw [World.news_of_block (heap_alloc_new w _) j u]
    rw [Array.getElem?_toList, bytesRow_at s cap j hj]
    simp [bys, D.ns] at hu
    obtain ⟨a, ha, rfl⟩ := hu
    have : s.data[j]? = some s.data[j] := Array.getElem?_eq_getElem hj
    rw [this] at ha
    injection ha with ha
    rw [ha]⟩⟩
theorem ns_at {s : ByteArray} {k : Nat} (h : k < s.size) : (D.ns s)[k]? = some (s[k].toNat) := by
  simp [D.ns]
  exact ⟨s[k], by rw [Array.getElem?_eq_getElem (by exact h)]; rfl, rfl⟩
def pcs (t : List Nat) (k : Nat) : Array Value := (bys (D.padl t k)).toArray
theorem pcs_zero (t : List Nat) : pcs t 0 = z12 := by rw [pcs, D.padl_zero]; rfl
theorem pcs_size (t : List Nat) (k : Nat) : (pcs t k).size = 12 := by simp [pcs, bys_len, D.padl_len]
theorem pcs_next {t : List Nat} {k b : Nat} (hb : t[k]? = some b) (hk : k < 12) : (pcs t k).setIfInBounds k (.int .u8 b) = pcs t (k + 1) := by
  rw [pcs, pcs, ← D.padl_next hb hk, bys, bys, List.setIfInBounds_toArray, List.map_set]
theorem pcs_end (s : ByteArray) (h : s.size ≤ 12) : pcs (D.ns s) s.size = nc (D.pad s) := by
  have := D.padl_all (t := D.ns s) 12 (by rw [D.ns_len]; exact h)
  rw [D.ns_len] at this
  rw [pcs, nc, D.pad, D.padN]
  simp only
  rw [this]

theorem bel_grown {w0 w w' : World} {g : Nat} (h : Below w0.heap.size w0 w) (hg : w.grownBy w' (some g)) (hge : w0.heap.size ≤ g) : Below w0.heap.size w0 w' :=
  h.grown hg h.size fun k hk => by injection hk with hk; omega
set_option maxHeartbeats 1000000 in
/-- The name of a text that is one. -/
theorem parse_yes (s : ByteArray) (w : World) (h : D.isB (D.ns s) = true) :
    Calls Tryz.prog 95 #[.string s] w fun e w' => e = .returned (.tuple #[.agg (nc (D.pad s)), .int .i64 0]) ∧ Below w.heap.size w w' := by
  obtain ⟨h1, h2, h3, h4⟩ := D.isB_iff.1 h
  rw [D.ns_len] at h1 h2
  have hl : D.letB (s[0].toNat) = true := by
    have := ns_at (s := s) (k := 0) (by omega)
    rwa [List.getD, this] at h3
  have H := Lib.hid (fun w => letter_any (s[0].toNat) w)
  rw [hl] at H
  have H4 : Kept (∀ c ∈ D.ns s, D.mayB c = true) := ⟨h4⟩
  clear h3 hl h h4
  have hcv := fun W => run_bytes_of_string (P := Tryz.prog) W 9 88 5 s Tryz.underlying9 Tryz.underlying88 Tryz.underlying5
  have c1 : ((s.size : Int) == 0) = false := by rw [beq_eq_false_iff_ne]; omega
  have c2 : decide ((12 : Int) < (s.size : Int)) = false := decide_eq_false (by omega)
  have c3 : ¬ s = ByteArray.empty := by rintro rfl; simp at h1
  go_enter Tryz.func95, Tryz.ntmps95
  go_wp2_with (go_at_call 106; (with_reducible refine (H.out _).mono ?_); rintro e w' ⟨rfl, rfl⟩)
  clear hcv c1 c2 c3
  go_loopw [25] (fun i wr => ∃ k : Nat, k ≤ s.size ∧ i = .int .i64 k ∧ Blk wr w.heap.size 24 z12 ∧ Blk wr (w.heap.size + 1) 24 (pcs (D.ns s) k) ∧ Row wr (some ⟨w.heap.size + 2, 0, none⟩) s.size (bys (D.ns s)) ∧ Below w.heap.size w wr) (fun i _ => s.size - (intOf i).toNat)
  case atStart =>
    refine ⟨0, Nat.zero_le _, rfl, ?_, ?_, ?_, ?_⟩
    · exact (((Blk.new w _ z12).alloc _).drew).alloc _
    · rw [pcs_zero]
      have := Blk.new (w.alloc (.cells z12 24)) 24 z12
      simp only [World.size_alloc] at this
      exact this.drew.alloc _
    · have := row_of_text ((w.alloc (.cells z12 24)).alloc (.cells z12 24)).drew s
      simp only [World.size_drew, World.size_alloc] at this
      exact this _ _ _
    · exact ((((Below.refl _ _).alloc (Nat.le_refl _) _).alloc (by simp) _).drew).alloc (by simp; omega) _
  case round =>
    obtain ⟨k, hk, rfl, B0, B1, R, hbel⟩ := hrel
    by_cases hlt : k < s.size
    · obtain ⟨b, hb, hbm⟩ := at_lt (l := D.ns s) (i := k) (by rw [D.ns_len]; exact hlt)
      have hm := H4.out b hbm
      have HM := Lib.hid (fun w => may_any b w)
      rw [hm] at HM
      obtain ⟨ad, e, cx⟩ := R.cell (bys_at hb)
      injection e with e
      subst e
      have hbn := B1.put k (.int .u8 b)
      rw [pcs_next hb (by omega)] at hbn
      have hcs : ∃ v, wr.cell? ⟨w.heap.size + 1, k, none⟩ = some v := by
        rw [B1.c]
        exact ⟨_, Array.getElem?_eq_getElem (by rw [pcs_size]; omega)⟩
      obtain ⟨v0, hc⟩ := hcs
      have hf := B1.f k
      have hb0 := B0.far (p := ⟨w.heap.size + 1, k, none⟩) (by simp) (.int .u8 b)
      have hR : Row (wr.setCell ⟨w.heap.size + 1, k, none⟩ (.int .u8 b)) (some ⟨w.heap.size + 2, 0, none⟩) s.size (bys (D.ns s)) := by
        refine ⟨R.len, fun hn => ?_⟩
        obtain ⟨ad, e, hl, hc⟩ := R.tow hn
        injection e with e
        subst e
        refine ⟨_, rfl, by simpa [World.setCell] using hl, fun j u hu => ?_⟩
        rw [← hc j u hu]
        exact World.cell?_of_block (w := wr) (by rw [block_of_add]; exact Below.heap_setCell _ _ _ _ (by simp))
      have i1 : (k : Int) < (s.size : Int) := by omega
      have i2 : (k : Int) < 12 := by omega
      simp only [Addr.add_lit, Nat.zero_add] at cx
      clear hb hm B1 R B0
      go_wp2_with (go_at_call 107; (with_reducible refine (HM.out _).mono ?_); rintro e w' ⟨rfl, rfl⟩)
      go_roundw
      case rel => exact ⟨k + 1, by omega, by go_num, hb0, hbn, hR, hbel.setCell (by simp) _⟩
      case measure => simp [intOf]; omega
    · have e : k = s.size := by omega
      subst e
      rw [pcs_end s h2] at B1
      have hx := rd_blk B1
      obtain ⟨w9, hst, B9, hg9⟩ := st_blk (.inr rfl) B0 rfl (D.pad s)
      have h9 := rd_blk B9
      clear B0 B1 R B9
      go_wp2
      refine bodyPost_ret (v := .tuple #[.agg (nc (D.pad s)), .int .i64 0]) (by rw [results_cell_tmp rfl]; simp [asAddr, Result.andThen, lv_of h9]) rfl ⟨rfl, bel_grown hbel hg9 (Nat.le_refl _)⟩

set_option maxHeartbeats 1000000 in
/-- The name of a text that begins as none. -/
theorem parse_short (s : ByteArray) (w : World) (h : s.size = 0 ∨ 12 < s.size) :
    Calls Tryz.prog 95 #[.string s] w fun e w' => e = .returned (.tuple #[.agg (nc D.zero), .int .i64 15]) ∧ Below w.heap.size w w' := by
  have B0 : Blk ((w.alloc (.cells z12 24)).alloc (.cells z12 24)) w.heap.size 24 z12 := (Blk.new w _ z12).alloc _
  obtain ⟨w9, hst, B9, hg9⟩ := st_blk (.inr rfl) B0 rfl D.zero
  have h9 := rd_blk B9
  have hb9 := bel_grown (((Below.refl w.heap.size w).alloc (Nat.le_refl _) (.cells z12 24)).alloc (by simp) (.cells z12 24)) hg9 (Nat.le_refl _)
  clear B0 B9 hg9
  rcases h with h | h
  · obtain rfl : s = ByteArray.empty := ByteArray.ext (Array.eq_empty_of_size_eq_zero h)
    clear h
    go_enter Tryz.func95, Tryz.ntmps95
    go_wp2
    refine bodyPost_ret (v := .tuple #[.agg (nc D.zero), .int .i64 15]) (by rw [results_cell_tmp rfl]; simp [asAddr, Result.andThen, lv_of h9]) rfl ⟨rfl, hb9⟩
  · have c1 : ((s.size : Int) == 0) = false := by rw [beq_eq_false_iff_ne]; omega
    have c2 : decide ((12 : Int) < (s.size : Int)) = true := decide_eq_true (by omega)
    have c3 : ¬ s = ByteArray.empty := by rintro rfl; simp at h
    go_enter Tryz.func95, Tryz.ntmps95
    go_wp2
    refine bodyPost_ret (v := .tuple #[.agg (nc D.zero), .int .i64 15]) (by rw [results_cell_tmp rfl]; simp [asAddr, Result.andThen, lv_of h9]) rfl ⟨rfl, hb9⟩
set_option maxHeartbeats 1000000 in
theorem parse_first (s : ByteArray) (w : World) (h1 : 1 ≤ s.size) (h2 : s.size ≤ 12) (hl : D.letB (s[0].toNat) = false) :
    Calls Tryz.prog 95 #[.string s] w fun e w' => e = .returned (.tuple #[.agg (nc D.zero), .int .i64 15]) ∧ Below w.heap.size w w' := by
  have B0 : Blk ((w.alloc (.cells z12 24)).alloc (.cells z12 24)) w.heap.size 24 z12 := (Blk.new w _ z12).alloc _
  obtain ⟨w9, hst, B9, hg9⟩ := st_blk (.inr rfl) B0 rfl D.zero
  have h9 := rd_blk B9
  have hb9 := bel_grown (((Below.refl w.heap.size w).alloc (Nat.le_refl _) (.cells z12 24)).alloc (by simp) (.cells z12 24)) hg9 (Nat.le_refl _)
  clear B0 B9 hg9
  have H := Lib.hid (fun w => letter_any (s[0].toNat) w)
  rw [hl] at H
  clear hl
  have c1 : ((s.size : Int) == 0) = false := by rw [beq_eq_false_iff_ne]; omega
  have c2 : decide ((12 : Int) < (s.size : Int)) = false := decide_eq_false (by omega)
  have c3 : ¬ s = ByteArray.empty := by rintro rfl; simp at h1
  go_enter Tryz.func95, Tryz.ntmps95
  go_wp2_with (go_at_call 106; (with_reducible refine (H.out _).mono ?_); rintro e w' ⟨rfl, rfl⟩)
  refine bodyPost_ret (v := .tuple #[.agg (nc D.zero), .int .i64 15]) (by rw [results_cell_tmp rfl]; simp [asAddr, Result.andThen, lv_of h9]) rfl ⟨rfl, hb9⟩
set_option maxHeartbeats 1000000 in
theorem parse_later (s : ByteArray) (w : World) (h1 : 1 ≤ s.size) (h2 : s.size ≤ 12) (hl : D.letB (s[0].toNat) = true) (h4 : Kept (¬ ∀ c ∈ D.ns s, D.mayB c = true)) :
    Calls Tryz.prog 95 #[.string s] w fun e w' => e = .returned (.tuple #[.agg (nc D.zero), .int .i64 15]) ∧ Below w.heap.size w w' := by
  have H := Lib.hid (fun w => letter_any (s[0].toNat) w)
  rw [hl] at H
  clear hl
  have hcv := fun W => run_bytes_of_string (P := Tryz.prog) W 9 88 5 s Tryz.underlying9 Tryz.underlying88 Tryz.underlying5
  have c1 : ((s.size : Int) == 0) = false := by rw [beq_eq_false_iff_ne]; omega
  have c2 : decide ((12 : Int) < (s.size : Int)) = false := decide_eq_false (by omega)
  have c3 : ¬ s = ByteArray.empty := by rintro rfl; simp at h1
  go_enter Tryz.func95, Tryz.ntmps95
  go_wp2_with (go_at_call 106; (with_reducible refine (H.out _).mono ?_); rintro e w' ⟨rfl, rfl⟩)
  clear hcv c1 c2 c3
  go_loopw [25] (fun i wr => ∃ k : Nat, k ≤ s.size ∧ i = .int .i64 k ∧ Blk wr w.heap.size 24 z12 ∧ Blk wr (w.heap.size + 1) 24 (pcs (D.ns s) k) ∧ Row wr (some ⟨w.heap.size + 2, 0, none⟩) s.size (bys (D.ns s)) ∧ Fine (D.ns s) k ∧ Below w.heap.size w wr) (fun i _ => s.size - (intOf i).toNat)
  case atStart =>
    refine ⟨0, Nat.zero_le _, rfl, ?_, ?_, ?_, fine_first _, ?_⟩
    · exact (((Blk.new w _ z12).alloc _).drew).alloc _
    · rw [pcs_zero]
      have := Blk.new (w.alloc (.cells z12 24)) 24 z12
      simp only [World.size_alloc] at this
      exact this.drew.alloc _
    · have := row_of_text ((w.alloc (.cells z12 24)).alloc (.cells z12 24)).drew s
      simp only [World.size_drew, World.size_alloc] at this
      exact this _ _ _
    · exact ((((Below.refl _ _).alloc (Nat.le_refl _) _).alloc (by simp) _).drew).alloc (by simp; omega) _
  case round =>
    obtain ⟨k, hk, rfl, B0, B1, R, HF, hbel⟩ := hrel
    by_cases hlt : k < s.size
    · obtain ⟨b, hb, hbm⟩ := at_lt (l := D.ns s) (i := k) (by rw [D.ns_len]; exact hlt)
      obtain ⟨ad, e, cx⟩ := R.cell (bys_at hb)
      injection e with e
      subst e
      simp only [Addr.add_lit, Nat.zero_add] at cx
      have i1 : (k : Int) < (s.size : Int) := by omega
      have i2 : (k : Int) < 12 := by omega
      by_cases hm : D.mayB b = true
      · have HM := Lib.hid (fun w => may_any b w)
        rw [hm] at HM
        have HN := fine_next HF hb hm
        have hbn := B1.put k (.int .u8 b)
        rw [pcs_next hb (by omega)] at hbn
        have hcs : ∃ v, wr.cell? ⟨w.heap.size + 1, k, none⟩ = some v := by
          rw [B1.c]
          exact ⟨_, Array.getElem?_eq_getElem (by rw [pcs_size]; omega)⟩
        obtain ⟨v0, hc⟩ := hcs
        have hf := B1.f k
        have hb0 := B0.far (p := ⟨w.heap.size + 1, k, none⟩) (by simp) (.int .u8 b)
        have hR : Row (wr.setCell ⟨w.heap.size + 1, k, none⟩ (.int .u8 b)) (some ⟨w.heap.size + 2, 0, none⟩) s.size (bys (D.ns s)) := by
          refine ⟨R.len, fun hn => ?_⟩
          obtain ⟨ad, e, hl, hc⟩ := R.tow hn
          injection e with e
          subst e
          refine ⟨_, rfl, by simpa [World.setCell] using hl, fun j u hu => ?_⟩
          rw [← hc j u hu]
          exact World.cell?_of_block (w := wr) (by rw [block_of_add]; exact Below.heap_setCell _ _ _ _ (by simp))
        clear hb hm B1 R B0
        go_wp2_with (go_at_call 107; (with_reducible refine (HM.out _).mono ?_); rintro e w' ⟨rfl, rfl⟩)
        go_roundw
        case rel => exact ⟨k + 1, by omega, by go_num, hb0, hbn, hR, HN, hbel.setCell (by simp) _⟩
        case measure => simp [intOf]; omega
      · have hm' : D.mayB b = false := by simpa using hm
        have HM := Lib.hid (fun w => may_any b w)
        rw [hm'] at HM
        obtain ⟨w9, hst, B9, hg9⟩ := st_blk (.inr rfl) B0 rfl D.zero
        have h9 := rd_blk B9
        clear hb hm hm' B1 R B0
        go_wp2_with (go_at_call 107; (with_reducible refine (HM.out _).mono ?_); rintro e w' ⟨rfl, rfl⟩)
        refine bodyPost_ret (v := .tuple #[.agg (nc D.zero), .int .i64 15]) (by rw [results_cell_tmp rfl]; simp [asAddr, Result.andThen, lv_of h9]) rfl ⟨rfl, bel_grown hbel hg9 (Nat.le_refl _)⟩
    · exact absurd (fun c hc => by
        obtain ⟨i, hi, e⟩ := List.getElem_of_mem hc
        exact HF.out i c (by have := D.ns_len s; omega) (by rw [List.getElem?_eq_getElem hi, e])) h4.out
/-- The name of a text that is none. -/
theorem parse_no (s : ByteArray) (w : World) (h : D.isB (D.ns s) = false) :
    Calls Tryz.prog 95 #[.string s] w fun e w' => e = .returned (.tuple #[.agg (nc D.zero), .int .i64 15]) ∧ Below w.heap.size w w' := by
  by_cases h1 : s.size = 0 ∨ 12 < s.size
  · exact parse_short s w h1
  · have h1' : 1 ≤ s.size := by omega
    have h2 : s.size ≤ 12 := by omega
    have h3 : D.letB ((D.ns s).getD 0 0) = D.letB (s[0].toNat) := by
      have := ns_at (s := s) (k := 0) (by omega)
      rw [List.getD, this]; rfl
    cases hl : D.letB (s[0].toNat)
    · exact parse_first s w h1' h2 hl
    · exact parse_later s w h1' h2 hl ⟨fun h4 => by
        have : D.isB (D.ns s) = true := D.isB_iff.2 ⟨by rw [D.ns_len]; exact h1', by rw [D.ns_len]; exact h2, by rw [h3, hl], h4⟩
        rw [this] at h; cases h⟩
end Go.Proofs.YtgobbdfgjgjigaaGreatDoor.Nm
