/-
  Count: how often each right name stands in a row.
-/
import Derived.Test.YtgfpdfafkimkcaaCnt
import Derived.Test.YtgfpdfafkimkcaaStep
set_option linter.unusedVariables false
set_option linter.unusedSimpArgs false
namespace Go.Proofs.Ytgfpdfafkimkcaa
open Go.RowKit Go.Sort
attribute [local go_sem ↓] Go.wp_at_zero Go.wp_at_succ ld_a ld_n st_a st_n eq_a eq_n ne_a ne_n bsl_a bsl_n lv_a lv_n
attribute [local go_sem] run_ld_a run_ld_n run_st_n run_eq_a run_eq_n run_ne_a run_ne_n run_bsl1_a run_bsl1_n run_bsl2 run_lv_a run_lv_n st_z ne_z rd_new rd_old rd_drew rd_drewN rd_ext

/-- What Count tells. -/
def Counted (L : List D.Nm) (w : World) (e : Ending) (w' : World) : Prop :=
  ∃ b, e = .returned (.map (some b)) ∧ w.heap.size ≤ b ∧ CntAt w' b L ∧ Below w.heap.size w w'
set_option maxRecDepth 100000 in
set_option maxHeartbeats 1000000 in
theorem count_any (A : Option Addr) (n c : Nat) (l : List D.Nm) (w : World) (hl : NRow w A n l) (hn : n ≤ 1000) :
    Calls Try.prog 20 #[.slice A n c] w (Counted (l.filter D.right) w) := by
  have hmm := @run_makeMap Try.prog
  have hC0 := cnt_new w
  go_enter Try.func20, Try.ntmps20
  go_wp2
  clear hmm
  go_loopw [9] (fun i wr => ∃ k : Nat, k ≤ n ∧ i = .int .i64 k ∧ CntAt wr w.heap.size ((l.take k).filter D.right) ∧ Below w.heap.size w wr) (fun i _ => n - (intOf i).toNat)
  case atStart => exact ⟨0, Nat.zero_le _, rfl, hC0, below_alloc_ _ _⟩
  case round =>
    obtain ⟨k, hk, rfl, hc, hb⟩ := hrel
    by_cases hlt : k < n
    · obtain ⟨x, hx⟩ := nat_lt (l := l) (i := k) (by rw [hl.len]; exact hlt)
      obtain ⟨ad, rfl, hadl, hr⟩ := (hl.on hb).rd hx
      have HN := D.right_next hx
      have HKl : ((l.take k).filter D.right).length ≤ 1000 := Nat.le_trans (List.length_filter_le _ _) (by simp; omega)
      obtain ⟨K, hK⟩ : ∃ K, (l.take k).filter D.right = K := ⟨_, rfl⟩
      rw [hK] at hc HN HKl
      have i1 : (k : Int) < (n : Int) := by omega
      have i0 : (0 : Int) ≤ (k : Int) := by omega
      have f1 := rd_new wr _ 23 x rfl
      have hr2 : rd wr (ad.add (k * 12)) = some x := hr
      have HR := right_any x
      clear hK hx
      cases hrt : D.right x
      · rw [hrt] at HR
        have CR := Lib.hid HR
        have HN2 : Kept ((l.take (k + 1)).filter D.right = K) := ⟨by rw [HN, hrt]; rfl⟩
        clear HR hrt HN
        go_wp2_with (go_at_call 13; (with_reducible refine (CR.out _).mono ?_); rintro e w2 ⟨rfl, b2⟩)
        go_roundw
        case rel => exact ⟨k + 1, by omega, by go_num, by rw [HN2.out]; exact (hc.alloc _).on b2, (hb.alloc hb.size _).trans (b2.mono (by simpa using Nat.le_succ_of_le hb.size))⟩
        case measure => simp [intOf]; omega
      · rw [hrt] at HR
        have CR := Lib.hid HR
        have HN2 : Kept ((l.take (k + 1)).filter D.right = K ++ [x]) := ⟨by rw [HN, hrt]; rfl⟩
        have hcl := D.cnt_le K x
        clear HR hrt HN
        go_wp2_with (go_at_call 13; (with_reducible refine (CR.out _).mono ?_); rintro e w2 ⟨rfl, b2⟩; have f2 := rd_on f1 b2)
        have hc2 := (hc.alloc (.cells (nc x) 23)).on b2
        have bb := (hb.alloc hb.size (.cells (nc x) 23)).trans (b2.mono (by simpa using Nat.le_succ_of_le hb.size))
        have hlk := hc2.drew.look x
        obtain ⟨st, w3, w4, hE, hL1, hS, hC4, hg4⟩ := hc2.drew.more HKl x
        have e0 : goInt st = .int .i64 (st : Int) := rfl
        rw [e0] at hE hS
        have f3 : rd w2.drew ⟨wr.heap.size, 0, none⟩ = some x := f2
        clear hc2 CR f1 hr2 hr hadl
        generalize D.cnt K x = q at *
        go_region
        all_goals
          go_wp2
          go_roundw
          case rel => exact ⟨k + 1, by omega, by go_num, by rw [HN2.out]; exact hC4, bb.trans ⟨hg4.os, hg4.tape, hg4.output, hg4.size, fun i hi => hg4.block i (Nat.lt_of_lt_of_le hi bb.size) (by intro e; injection e with e; omega)⟩⟩
          case measure => simp [intOf]; omega
    · have e : l.take k = l := List.take_of_length_le (by rw [hl.len]; omega)
      rw [e] at hc
      have i1 : (n : Int) ≤ (k : Int) := by omega
      clear e
      go_wp2
      go_ret
      exact ⟨_, rfl, Nat.le_refl _, hc, hb⟩
end Go.Proofs.Ytgfpdfafkimkcaa
