/-
  Sort: the right ones of a row, in order.
-/
import Derived.Test.YtgfpdfafkimkcaaSort
set_option linter.unusedVariables false
set_option linter.unusedSimpArgs false
namespace Go.Proofs.Ytgfpdfafkimkcaa
open Go.RowKit Go.Sort
attribute [local go_sem ↓] Go.wp_at_zero Go.wp_at_succ ld_a ld_n st_a st_n eq_a eq_n ne_a ne_n bsl_a bsl_n lv_a lv_n
attribute [local go_sem] run_ld_a run_ld_n run_st_n run_eq_a run_eq_n run_ne_a run_ne_n run_bsl1_a run_bsl1_n run_bsl2 run_lv_a run_lv_n st_z ne_z rd_new rd_old rd_drew rd_drewN rd_ext

theorem grown_new {base B : Nat} {w w' : World} {A : Option Addr} {n c e : Nat} {l : List D.Nm} (h : NOwn base e w A n c l) (hB : B ≤ base) (hg : w.grownBy w' (Value.slice A n c).ownBlock) : Below B w w' :=
  ⟨hg.os, hg.tape, hg.output, hg.size, fun i hi => hg.block i (Nat.lt_of_lt_of_le hi (Nat.le_trans hB h.base)) fun e => by
    have := (h.lt i e.symm).1
    omega⟩
/-- What a call that makes a slice of names tells. -/
def MadeN (l : List D.Nm) (w : World) (e : Ending) (w' : World) : Prop :=
  ∃ B m c, e = .returned (.slice B m c) ∧ NOwn w.heap.size 23 w' B m c l ∧ Below w.heap.size w w'
set_option maxRecDepth 100000 in
set_option maxHeartbeats 1000000 in
theorem sorted_any (A : Option Addr) (n c : Nat) (l : List D.Nm) (w : World) (hl : NRow w A n l) (hn : n ≤ 1000) :
    Calls Try.prog 19 #[.slice A n c] w (MadeN (D.want l) w) := by
  have hS := Lib.hid (fun (B : Option Addr) (m d : Nat) (k : List D.Nm) (W : World) (h : NOwn w.heap.size 23 W B m d k) (hm : m ≤ 1000000) => sort_any h hm)
  go_enter Try.func19, Try.ntmps19
  go_wp2
  go_loopw [3, 8] (fun s i wr => ∃ (k : Nat) (B : Option Addr) (m d : Nat), k ≤ n ∧ i = .int .i64 k ∧ s = .slice B m d ∧ m ≤ k ∧ NOwn w.heap.size 23 wr B m d ((l.take k).filter D.right) ∧ Below w.heap.size w wr) (fun _ i _ => n - (intOf i).toNat)
  case atStart => exact ⟨0, none, 0, 0, Nat.zero_le _, rfl, rfl, Nat.le_refl _, NOwn.nil (Nat.le_refl _), Below.refl _ _⟩
  case round =>
    obtain ⟨k, B, m, d, hk, rfl, rfl, hmk, ho, hb⟩ := hrel
    by_cases hlt : k < n
    · obtain ⟨x, hx⟩ := nat_lt (l := l) (i := k) (by rw [hl.len]; exact hlt)
      obtain ⟨ad, rfl, hadl, hr⟩ := (hl.on hb).rd hx
      have HN := D.right_next hx
      obtain ⟨K, hK⟩ : ∃ K, (l.take k).filter D.right = K := ⟨_, rfl⟩
      rw [hK] at ho HN
      have i1 : (k : Int) < (n : Int) := by omega
      have i0 : (0 : Int) ≤ (k : Int) := by omega
      have f1 := rd_new wr _ 23 x rfl
      have hr2 : rd wr (ad.add (k * 12)) = some x := hr
      have HR := right_any x
      clear hK hx
      cases hrt : D.right x
      · rw [hrt] at HR
        have CR := Lib.hid HR
        have HN2 : Kept ((l.take (k + 1)).filter D.right = K) := ⟨by rw [HN, hrt]; rfl⟩
        clear HR hrt HN
        go_wp2_with (go_at_call 13; (with_reducible refine (CR.out _).mono ?_); rintro e w2 ⟨rfl, b2⟩)
        go_roundw
        case rel => exact ⟨k + 1, B, m, d, by omega, by go_num, rfl, by omega, by rw [HN2.out]; exact (ho.alloc _).on b2, (hb.alloc hb.size _).trans (b2.mono (by simpa using Nat.le_succ_of_le hb.size))⟩
        case measure => simp [intOf]; omega
      · rw [hrt] at HR
        have CR := Lib.hid HR
        have HN2 : Kept ((l.take (k + 1)).filter D.right = K ++ [x]) := ⟨by rw [HN, hrt]; rfl⟩
        clear HR hrt HN
        go_wp2_with (first
          | (go_at_call 13; (with_reducible refine (CR.out _).mono ?_); rintro e w2 ⟨rfl, b2⟩; have f2 := rd_on f1 b2; have ho2 := (ho.alloc _).on b2)
          | (at_builtin; refine napp _ ty_n rfl (.tmp 14) (.tmp 16) rfl rfl (ho2.alloc _) rfl (nrow_one w2 _ _ x rfl) (by omega) ?_; intro A1 c1 w3 ho3 hg3 hat3))
        go_roundw
        case rel =>
          refine ⟨k + 1, A1, m + 1, c1, by omega, by go_num, rfl, by omega, by rw [HN2.out]; exact ho3, ?_⟩
          have b3 := (hb.alloc hb.size (.cells (nc x) 23)).trans (b2.mono (by simpa using Nat.le_succ_of_le hb.size))
          exact (b3.alloc b3.size _).trans (grown_new (ho2.alloc _) (Nat.le_refl _) hg3)
        case measure => simp [intOf]; omega
    · have e : l.take k = l := List.take_of_length_le (by rw [hl.len]; omega)
      rw [e] at ho
      have i1 : (n : Int) ≤ (k : Int) := by omega
      have HC := Lib.hid (hS.out B m d _ wr ho (by omega))
      have HW := Lib.hid (fun l' (h1 : D.Srt l') (h2 : l'.Perm (l.filter D.right)) => D.srt_one h1 (D.want_srt l) (h2.trans (D.want_perm l).symm))
      clear e
      go_wp2_with (go_at_call 32; (with_reducible refine HC.out.mono ?_); rintro e w2 ⟨rfl, l', hs', hp', ho2, hg2⟩)
      go_ret
      exact ⟨B, m, d, rfl, by rw [← HW.out l' hs' hp']; exact ho2, hb.trans (grown_new ho (Nat.le_refl _) hg2)⟩
end Go.Proofs.Ytgfpdfafkimkcaa
