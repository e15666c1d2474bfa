/-
  The program's Less; the document's Less, Is, Pad, Text.
-/
import Derived.Test.YtgfpdfafkimkcaaCmp
import Derived.Deep.Light
set_option linter.unusedVariables false
set_option linter.unusedSimpArgs false
namespace Go.Proofs.Ytgfpdfafkimkcaa
open Go.RowKit Go.Sort
attribute [local go_sem ↓] Go.wp_at_zero Go.wp_at_succ ld_a ld_n st_a st_n eq_a eq_n ne_a ne_n bsl_a bsl_n lv_a lv_n
attribute [local go_sem] run_ld_a run_ld_n run_st_n run_eq_a run_eq_n run_ne_a run_ne_n run_bsl1_a run_bsl1_n run_bsl2 run_lv_a run_lv_n st_z ne_z rd_new rd_old rd_drew rd_drewN

theorem grow_below (w : World) (q : Nat) (os : Array Obj) : Below w.heap.size w (grow (w.drewN q) os) := ⟨rfl, rfl, rfl, by simp, fun i hi => heap_grow_old _ _ (by exact hi)⟩
theorem less_of_cmp (x y : D.Nm) : decide (D.cmp x.l y.l < 0) = D.less x y := by
  unfold D.less
  rw [decide_eq_decide]
  rcases D.cmp_in x.l y.l with h | h | h <;> omega
set_option maxHeartbeats 1000000 in
theorem less_any (x y : D.Nm) (w : World) :
    Calls Try.prog 16 #[.agg (nc x), .agg (nc y)] w fun e w' => e = .returned (.bool (D.less x y)) ∧ Below w.heap.size w w' := by
  have HC := Lib.hid (compare_any x y)
  have HL := Lib.hid (less_of_cmp x y)
  obtain ⟨r, hr⟩ : ∃ r, D.cmp x.l y.l = r := ⟨_, rfl⟩
  rw [hr] at HC HL
  clear hr
  go_enter Try.func16, Try.ntmps16
  go_wp2_with (go_at_call 31; (with_reducible refine (HC.out _).mono ?_); rintro e w1 ⟨rfl, q, os, rfl⟩)
  go_ret
  exact ⟨bool_of HL.out, ((below_alloc_ _ _).trans ((below_alloc_ _ _).mono (by simp))).trans ((grow_below _ q os).mono (by simp; omega))⟩

theorem drop_at {l : List Nat} {j x : Nat} (h : l[j]? = some x) : l.drop j = x :: l.drop (j + 1) := by
  obtain ⟨h1, h2⟩ := List.getElem?_eq_some_iff.1 h
  rw [List.drop_eq_getElem_cons h1, h2]
/-- So far the two rows are the same. -/
structure Like (l k : List Nat) (j : Nat) : Prop where
  out : D.cmp (l.drop j) (k.drop j) = D.cmp l k
theorem like_first (l k : List Nat) : Like l k 0 := ⟨rfl⟩
theorem like_next {l k : List Nat} {j x y : Nat} (h : Like l k j) (hx : l[j]? = some x) (hy : k[j]? = some y) (e : x = y) : Like l k (j + 1) := by
  refine ⟨?_⟩
  rw [← h.out, drop_at hx, drop_at hy, D.cmp, if_pos e]
theorem like_less {x y : D.Nm} {j a b : Nat} (h : Like x.l y.l j) (hx : x.l[j]? = some a) (hy : y.l[j]? = some b) (e : a ≠ b) : decide (a < b) = D.less x y := by
  unfold D.less
  rw [← h.out, drop_at hx, drop_at hy, D.cmp, if_neg e, decide_eq_decide]
  split <;> simp <;> omega
theorem like_end {x y : D.Nm} {j : Nat} (h : Like x.l y.l j) (hj : 12 ≤ j) : false = D.less x y := by
  unfold D.less
  rw [← h.out, List.drop_of_length_le (by rw [x.len]; exact hj), List.drop_of_length_le (by rw [y.len]; exact hj)]
  rfl
theorem nm_at (x : D.Nm) {j : Nat} (h : j < 12) : ∃ b, x.l[j]? = some b ∧ b < 256 := ⟨x.l[j]'(by rw [x.len]; exact h), List.getElem?_eq_getElem _, x.lt _ (List.getElem_mem _)⟩
theorem blk_at {w : World} {g : Nat} {t : TypeId} {x : D.Nm} {j b : Nat} (h : Blk w g t (nc x)) (hb : x.l[j]? = some b) : w.cell? ⟨g, j, none⟩ = some (.int .u8 b) := by
  rw [h.c j]
  simp [nc, bys, hb]
set_option maxHeartbeats 1000000 in
theorem ref_less (x y : D.Nm) (w : World) :
    Calls Try.prog 17 #[.agg (nc x), .agg (nc y)] w fun e w' => e = .returned (.bool (D.less x y)) ∧ Below w.heap.size w w' := by
  have B0 : Blk ((w.alloc (.cells (nc x) 22)).alloc (.cells (nc y) 22)) w.heap.size 22 (nc x) := (Blk.new w _ (nc x)).alloc _
  have B1 := Blk.new (w.alloc (.cells (nc x) 22)) 22 (nc y)
  simp only [World.size_alloc] at B1
  go_enter Try.func17, Try.ntmps17
  go_wp2
  go_loopw [5] (fun i wr => ∃ j : Nat, j ≤ 12 ∧ i = .int .i64 j ∧ Like x.l y.l j ∧ ∃ q, wr = ((w.alloc (.cells (nc x) 22)).alloc (.cells (nc y) 22)).drewN q) (fun i _ => 12 - (intOf i).toNat)
  case atStart => exact ⟨0, by omega, rfl, like_first _ _, 0, rfl⟩
  case round =>
    obtain ⟨j, hj, rfl, HL, q, rfl⟩ := hrel
    by_cases hlt : j < 12
    · obtain ⟨a, hx, ha⟩ := nm_at x hlt
      obtain ⟨b, hy, hb⟩ := nm_at y hlt
      have cx := blk_at B0 hx
      have cy := blk_at B1 hy
      have i1 : (0 : Int) ≤ (j : Int) := by omega
      have i2 : (j : Int) < 12 := by omega
      by_cases e : a = b
      · have HN := like_next HL hx hy e
        subst e
        clear HL hx hy B0 B1
        go_wp2_with fail
        go_quiet (fail)
        go_wp2
        go_roundw
        case rel => exact ⟨j + 1, by omega, by go_num, HN, _, rfl⟩
        case measure => simp [intOf]; omega
      · have HN := Lib.hid (like_less HL hx hy e)
        have hne : (((a : Int) == (b : Int)) = false) := by rw [beq_eq_false_iff_ne]; omega
        have hne2 : (((a : Int) != (b : Int)) = true) := by rw [bne_iff_ne]; omega
        clear HL hx hy B0 B1
        go_wp2_with fail
        go_quiet (fail)
        go_wp2_with fail
        go_quiet (fail)
        go_wp2
        go_ret
        exact ⟨bool_of HN.out, below_drewN (below_drewN (below_drewN ((below_alloc_ _ _).trans ((below_alloc_ _ _).mono (by simp))) _) _) _⟩
    · have HN := Lib.hid (like_end HL (by omega))
      clear HL
      go_wp2
      go_ret
      exact ⟨bool_of HN.out, below_drewN (((below_alloc_ _ _).trans ((below_alloc_ _ _).mono (by simp)))) _⟩

/-- Each byte so far stands rightly. -/
structure Good (t : List Nat) (k : Nat) : Prop where
  fine : Fine t k
  first : 0 < k → D.letB (t.getD 0 0) = true
theorem good_next {t : List Nat} {k b : Nat} (h : Good t k) (hb : t[k]? = some b) (hm : D.mayB b = true) (hl : k = 0 → D.letB b = true) : Good t (k + 1) := ⟨fine_next h.fine hb hm, fun _ => by
  by_cases e : k = 0
  · subst e
    rw [List.getD, hb]
    exact hl rfl
  · exact h.first (by omega)⟩
theorem not_good {t : List Nat} {k b : Nat} (hb : t[k]? = some b) (h : D.mayB b = false ∨ (k = 0 ∧ D.letB b = false)) : false = D.isB t := by
  rcases h with h | ⟨rfl, h⟩
  · exact (not_fine hb h).symm
  · cases hi : D.isB t
    · rfl
    · have := (D.isB_iff.1 hi).2.2.1
      rw [List.getD, hb] at this
      simp only [Option.getD_some] at this
      rw [h] at this; cases this
set_option maxRecDepth 100000 in
set_option maxHeartbeats 1000000 in
theorem ref_is (s : ByteArray) (w : World) :
    Calls Try.prog 10 #[.string s] w fun e w' => e = .returned (.bool (D.isB (D.ns s))) ∧ w = w' := by
  by_cases h1 : 1 ≤ s.size
  · by_cases h2 : s.size ≤ 12
    · have c1 : ¬ ((s.size : Int) < 1) := by omega
      have c2 : ¬ ((12 : Int) < (s.size : Int)) := by omega
      go_enter Try.func10, Try.ntmps10
      go_wp2
      go_loop [3] (fun i => ∃ k : Nat, k ≤ s.size ∧ i = .int .i64 k ∧ Good (D.ns s) k) (fun i => s.size - (intOf i).toNat)
      case atStart => exact ⟨0, Nat.zero_le _, rfl, fine_first _, fun h => absurd h (by omega)⟩
      case round =>
        obtain ⟨k, hk, rfl, HG⟩ := hrel
        by_cases hlt : k < s.size
        · have hb := ns_at hlt
          obtain ⟨b, hq⟩ : ∃ b, s[k].toNat = b := ⟨_, rfl⟩
          have HN := fun hm hl => good_next (b := b) HG (by rw [← hq]; exact hb) hm hl
          have HB := fun h => not_good (b := b) (t := D.ns s) (k := k) (by rw [← hq]; exact hb) h
          have H1 := Lib.hid HN
          have H2 := Lib.hid HB
          clear HN HB HG hb c1 c2
          go_wp2
          all_goals first
            | (go_ret
               refine ⟨bool_of (H2.out ?_), rfl⟩
               go_light
               (try simp at *)
               simp [D.mayB, D.letB]
               omega)
            | (go_round
               case rel =>
                 refine ⟨k + 1, by omega, by go_num, H1.out ?_ ?_⟩
                 · go_light
                   (try simp at *)
                   simp [D.mayB, D.letB]
                   omega
                 · go_light
                   (try simp at *)
                   simp [D.letB]
                   omega
               case measure => simp [intOf]; omega)
        · have HI := Lib.hid (show true = D.isB (D.ns s) from (fine_all HG.fine (by rw [D.ns_len]; omega) (by rw [D.ns_len]; exact h1) (by rw [D.ns_len]; exact h2) (HG.first (by omega))).symm)
          clear HG c1 c2
          go_wp2
          go_ret
          exact ⟨bool_of HI.out, rfl⟩
    · have HI := Lib.hid (show false = D.isB (D.ns s) by simp [D.isB, D.ns_len, h2])
      have c1 : decide ((s.size : Int) < 1) = false := decide_eq_false (by omega)
      have c2 : decide ((12 : Int) < (s.size : Int)) = true := decide_eq_true (by omega)
      go_enter Try.func10, Try.ntmps10
      go_wp2
      go_ret
      exact ⟨bool_of HI.out, rfl⟩
  · have HI := Lib.hid (show false = D.isB (D.ns s) by simp [D.isB, D.ns_len]; omega)
    have c1 : decide ((s.size : Int) < 1) = true := decide_eq_true (by omega)
    go_enter Try.func10, Try.ntmps10
    go_wp2
    go_ret
    exact ⟨bool_of HI.out, rfl⟩
end Go.Proofs.Ytgfpdfafkimkcaa
