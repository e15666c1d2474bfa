/-
  The document's Of: a number's category in a group.
-/
import Derived.Test.YtpiajeonnhfanaaDoorPa
import Derived.Deep.CutRange
set_option linter.unusedVariables false
set_option linter.unusedSimpArgs false
set_option maxRecDepth 100000
namespace Go.Proofs.YtpiajeonnhfanaaDoor
open Go.RowKit
attribute [local go_sem ↓] Go.wp_at_zero Go.wp_at_succ

def D.pofv (g n a b : Nat) (f t : Bool) : Nat :=
  if g = 1 then 5
  else if g = 2 then (if n = 0 ∨ n = 1 then 1 else 5)
  else if g = 3 then (if a = 1 ∧ b ≠ 11 then 1 else if f then 3 else 4)
  else if g = 4 then (if n = 1 then 1 else if f then 3 else 4)
  else if g = 5 then (if n = 1 then 1 else if 2 ≤ n ∧ n ≤ 4 then 3 else 5)
  else if g = 6 then (if n ≤ 2 then n else if 3 ≤ b ∧ b ≤ 10 then 3 else if 11 ≤ b then 4 else 5)
  else if g = 7 then (if a = 1 ∧ t = false then 1 else if 2 ≤ a ∧ t = false then 3 else 5)
  else (if n = 1 then 1 else 5)
theorem D.pof_v (g n : Nat) : D.pof g n = D.pofv g n (n % 10) (n % 100) (D.few n) (D.teen n) := rfl

/-- A leaf: what is known of the number, and its category. -/
structure Leaf7 (g n a b : Nat) (f t : Bool) (v : Nat) : Prop where
  out : D.pofv g n a b f t = v

set_option maxHeartbeats 4000000 in
theorem dof_0 (n : Nat) (w : World) (hn : n < 18446744073709551616) : Calls Tryd.prog 9 #[.int .i64 0, .int .u64 n] w fun e w' => e = .returned (.int .i64 (D.pof 0 n : Nat)) ∧ w = w' := by
  have HP : Kept (D.pof 0 n = D.pofv 0 n (n % 10) (n % 100) (D.few n) (D.teen n)) := ⟨D.pof_v 0 n⟩
  have HF : Kept (D.few n = decide (2 ≤ n % 10 ∧ n % 10 ≤ 4 ∧ ¬ (12 ≤ n % 100 ∧ n % 100 ≤ 14))) := ⟨rfl⟩
  have HT : Kept (D.teen n = decide (11 ≤ n % 100 ∧ n % 100 ≤ 19)) := ⟨rfl⟩
  have e10 : (n : Int) % 10 = ((n % 10 : Nat) : Int) := by omega
  have e100 : (n : Int) % 100 = ((n % 100 : Nat) : Int) := by omega
  obtain ⟨f, hf⟩ : ∃ f, D.few n = f := ⟨_, rfl⟩
  obtain ⟨t, ht⟩ : ∃ t, D.teen n = t := ⟨_, rfl⟩
  rw [hf, ht] at HP
  rw [hf] at HF
  rw [ht] at HT
  obtain ⟨a, ha⟩ : ∃ a, n % 10 = a := ⟨_, rfl⟩
  obtain ⟨b, hb⟩ : ∃ b, n % 100 = b := ⟨_, rfl⟩
  have hab : a < 10 ∧ b < 100 ∧ b % 10 = a ∧ (n < 100 → b = n) := by omega
  rw [ha] at e10 HP HF
  rw [hb] at e100 HP HF HT
  clear hf ht ha hb
  go_enter Tryd.func9, Tryd.ntmps9
  go_upto_region 2 with fail
  simp only [e10, e100]
  clear e10 e100
  go_cut [7] from 13 to 27 (fun s7 wx => s7 = .bool f ∧ wx = w)
  case first =>
    rcases (show a < 2 ∨ 4 < a ∨ (2 ≤ a ∧ a ≤ 4 ∧ b < 12) ∨ (2 ≤ a ∧ a ≤ 4 ∧ 12 ≤ b ∧ b ≤ 14) ∨ (2 ≤ a ∧ a ≤ 4 ∧ 14 < b) by omega) with h | h | ⟨h1, h2, h3⟩ | ⟨h1, h2, h3, h4⟩ | ⟨h1, h2, h3⟩
    · have i1 : (a : Int) < 2 := by omega
      have hv : Kept (f = false) := ⟨by rw [HF.out, decide_eq_false (by omega)]⟩
      clear hab h
      go_wp2_with fail
      go_meet
      exact ⟨by first | (rw [hv.out]; done) | (rw [hv.out]; congr 1; simp; done) | (rw [hv.out]; congr 1; simp; omega), rfl⟩
    · have i1 : (2 : Int) ≤ a := by omega
      have i2 : (4 : Int) < a := by omega
      have hv : Kept (f = false) := ⟨by rw [HF.out, decide_eq_false (by omega)]⟩
      clear hab h
      go_wp2_with fail
      go_meet
      exact ⟨by first | (rw [hv.out]; done) | (rw [hv.out]; congr 1; simp; done) | (rw [hv.out]; congr 1; simp; omega), rfl⟩
    · have i1 : (2 : Int) ≤ a := by omega
      have i2 : (a : Int) ≤ 4 := by omega
      have i3 : (b : Int) < 12 := by omega
      have hv : Kept (f = true) := ⟨by rw [HF.out, decide_eq_true (by omega)]⟩
      clear hab h1 h2 h3
      go_wp2_with fail
      go_meet
      exact ⟨by first | (rw [hv.out]; done) | (rw [hv.out]; congr 1; simp; done) | (rw [hv.out]; congr 1; simp; omega), rfl⟩
    · have i1 : (2 : Int) ≤ a := by omega
      have i2 : (a : Int) ≤ 4 := by omega
      have i3 : (12 : Int) ≤ b := by omega
      have i4 : (b : Int) ≤ 14 := by omega
      have hv : Kept (f = false) := ⟨by rw [HF.out, decide_eq_false (by omega)]⟩
      clear hab h1 h2 h3 h4
      go_wp2_with fail
      go_meet
      exact ⟨by first | (rw [hv.out]; done) | (rw [hv.out]; congr 1; simp; done) | (rw [hv.out]; congr 1; simp; omega), rfl⟩
    · have i1 : (2 : Int) ≤ a := by omega
      have i2 : (a : Int) ≤ 4 := by omega
      have i3 : (12 : Int) ≤ b := by omega
      have i4 : (14 : Int) < b := by omega
      have hv : Kept (f = true) := ⟨by rw [HF.out, decide_eq_true (by omega)]⟩
      clear hab h1 h2 h3
      go_wp2_with fail
      go_meet
      exact ⟨by first | (rw [hv.out]; done) | (rw [hv.out]; congr 1; simp; done) | (rw [hv.out]; congr 1; simp; omega), rfl⟩
  case rest =>
    obtain ⟨rfl, rfl⟩ := hcut
    clear HF
    go_upto_region 3 with fail
    go_cut [8] from 28 to 33 (fun s8 wx => s8 = .bool t ∧ wx = wc)
    case first =>
      rcases (show b < 11 ∨ 19 < b ∨ (11 ≤ b ∧ b ≤ 19) by omega) with h | h | ⟨h1, h2⟩
      · have i1 : (b : Int) < 11 := by omega
        have hv : Kept (t = false) := ⟨by rw [HT.out, decide_eq_false (by omega)]⟩
        clear hab h
        go_wp2_with fail
        go_meet
        exact ⟨by first | (rw [hv.out]; done) | (rw [hv.out]; congr 1; simp; done) | (rw [hv.out]; congr 1; simp; omega), rfl⟩
      · have i1 : (11 : Int) ≤ b := by omega
        have i2 : (19 : Int) < b := by omega
        have hv : Kept (t = false) := ⟨by rw [HT.out, decide_eq_false (by omega)]⟩
        clear hab h
        go_wp2_with fail
        go_meet
        exact ⟨by first | (rw [hv.out]; done) | (rw [hv.out]; congr 1; simp; done) | (rw [hv.out]; congr 1; simp; omega), rfl⟩
      · have i1 : (11 : Int) ≤ b := by omega
        have i2 : (b : Int) ≤ 19 := by omega
        have hv : Kept (t = true) := ⟨by rw [HT.out, decide_eq_true (by omega)]⟩
        clear hab h1 h2
        go_wp2_with fail
        go_meet
        exact ⟨by first | (rw [hv.out]; done) | (rw [hv.out]; congr 1; simp; done) | (rw [hv.out]; congr 1; simp; omega), rfl⟩
    case rest =>
      obtain ⟨rfl, rfl⟩ := hcut
      clear HT
      have hd : (n = 1) ∨ (n ≠ 1) := by
        omega
      rcases hd with e0 | e0
      · have i0 : ((n : Int) == 1) = true := by simp; omega
        have HV : Kept (D.pofv 0 n a b f t = 1) := ⟨by unfold D.pofv; simp <;> (repeat' split) <;> omega⟩
        clear e0
        go_wp2_with fail
        go_ret
        exact ⟨ret_of (by rw [HP.out, HV.out]; rfl), rfl⟩
      · have i0 : ((n : Int) == 1) = false := by simp; omega
        have HV : Kept (D.pofv 0 n a b f t = 5) := ⟨by unfold D.pofv; simp <;> (repeat' split) <;> omega⟩
        clear e0
        go_wp2_with fail
        go_ret
        exact ⟨ret_of (by rw [HP.out, HV.out]; rfl), rfl⟩
set_option maxHeartbeats 4000000 in
theorem dof_1 (n : Nat) (w : World) (hn : n < 18446744073709551616) : Calls Tryd.prog 9 #[.int .i64 1, .int .u64 n] w fun e w' => e = .returned (.int .i64 (D.pof 1 n : Nat)) ∧ w = w' := by
  have HP : Kept (D.pof 1 n = D.pofv 1 n (n % 10) (n % 100) (D.few n) (D.teen n)) := ⟨D.pof_v 1 n⟩
  have HF : Kept (D.few n = decide (2 ≤ n % 10 ∧ n % 10 ≤ 4 ∧ ¬ (12 ≤ n % 100 ∧ n % 100 ≤ 14))) := ⟨rfl⟩
  have HT : Kept (D.teen n = decide (11 ≤ n % 100 ∧ n % 100 ≤ 19)) := ⟨rfl⟩
  have e10 : (n : Int) % 10 = ((n % 10 : Nat) : Int) := by omega
  have e100 : (n : Int) % 100 = ((n % 100 : Nat) : Int) := by omega
  obtain ⟨f, hf⟩ : ∃ f, D.few n = f := ⟨_, rfl⟩
  obtain ⟨t, ht⟩ : ∃ t, D.teen n = t := ⟨_, rfl⟩
  rw [hf, ht] at HP
  rw [hf] at HF
  rw [ht] at HT
  obtain ⟨a, ha⟩ : ∃ a, n % 10 = a := ⟨_, rfl⟩
  obtain ⟨b, hb⟩ : ∃ b, n % 100 = b := ⟨_, rfl⟩
  have hab : a < 10 ∧ b < 100 ∧ b % 10 = a ∧ (n < 100 → b = n) := by omega
  rw [ha] at e10 HP HF
  rw [hb] at e100 HP HF HT
  clear hf ht ha hb
  go_enter Tryd.func9, Tryd.ntmps9
  go_upto_region 2 with fail
  simp only [e10, e100]
  clear e10 e100
  go_cut [7] from 13 to 27 (fun s7 wx => s7 = .bool f ∧ wx = w)
  case first =>
    rcases (show a < 2 ∨ 4 < a ∨ (2 ≤ a ∧ a ≤ 4 ∧ b < 12) ∨ (2 ≤ a ∧ a ≤ 4 ∧ 12 ≤ b ∧ b ≤ 14) ∨ (2 ≤ a ∧ a ≤ 4 ∧ 14 < b) by omega) with h | h | ⟨h1, h2, h3⟩ | ⟨h1, h2, h3, h4⟩ | ⟨h1, h2, h3⟩
    · have i1 : (a : Int) < 2 := by omega
      have hv : Kept (f = false) := ⟨by rw [HF.out, decide_eq_false (by omega)]⟩
      clear hab h
      go_wp2_with fail
      go_meet
      exact ⟨by first | (rw [hv.out]; done) | (rw [hv.out]; congr 1; simp; done) | (rw [hv.out]; congr 1; simp; omega), rfl⟩
    · have i1 : (2 : Int) ≤ a := by omega
      have i2 : (4 : Int) < a := by omega
      have hv : Kept (f = false) := ⟨by rw [HF.out, decide_eq_false (by omega)]⟩
      clear hab h
      go_wp2_with fail
      go_meet
      exact ⟨by first | (rw [hv.out]; done) | (rw [hv.out]; congr 1; simp; done) | (rw [hv.out]; congr 1; simp; omega), rfl⟩
    · have i1 : (2 : Int) ≤ a := by omega
      have i2 : (a : Int) ≤ 4 := by omega
      have i3 : (b : Int) < 12 := by omega
      have hv : Kept (f = true) := ⟨by rw [HF.out, decide_eq_true (by omega)]⟩
      clear hab h1 h2 h3
      go_wp2_with fail
      go_meet
      exact ⟨by first | (rw [hv.out]; done) | (rw [hv.out]; congr 1; simp; done) | (rw [hv.out]; congr 1; simp; omega), rfl⟩
    · have i1 : (2 : Int) ≤ a := by omega
      have i2 : (a : Int) ≤ 4 := by omega
      have i3 : (12 : Int) ≤ b := by omega
      have i4 : (b : Int) ≤ 14 := by omega
      have hv : Kept (f = false) := ⟨by rw [HF.out, decide_eq_false (by omega)]⟩
      clear hab h1 h2 h3 h4
      go_wp2_with fail
      go_meet
      exact ⟨by first | (rw [hv.out]; done) | (rw [hv.out]; congr 1; simp; done) | (rw [hv.out]; congr 1; simp; omega), rfl⟩
    · have i1 : (2 : Int) ≤ a := by omega
      have i2 : (a : Int) ≤ 4 := by omega
      have i3 : (12 : Int) ≤ b := by omega
      have i4 : (14 : Int) < b := by omega
      have hv : Kept (f = true) := ⟨by rw [HF.out, decide_eq_true (by omega)]⟩
      clear hab h1 h2 h3
      go_wp2_with fail
      go_meet
      exact ⟨by first | (rw [hv.out]; done) | (rw [hv.out]; congr 1; simp; done) | (rw [hv.out]; congr 1; simp; omega), rfl⟩
  case rest =>
    obtain ⟨rfl, rfl⟩ := hcut
    clear HF
    go_upto_region 3 with fail
    go_cut [8] from 28 to 33 (fun s8 wx => s8 = .bool t ∧ wx = wc)
    case first =>
      rcases (show b < 11 ∨ 19 < b ∨ (11 ≤ b ∧ b ≤ 19) by omega) with h | h | ⟨h1, h2⟩
      · have i1 : (b : Int) < 11 := by omega
        have hv : Kept (t = false) := ⟨by rw [HT.out, decide_eq_false (by omega)]⟩
        clear hab h
        go_wp2_with fail
        go_meet
        exact ⟨by first | (rw [hv.out]; done) | (rw [hv.out]; congr 1; simp; done) | (rw [hv.out]; congr 1; simp; omega), rfl⟩
      · have i1 : (11 : Int) ≤ b := by omega
        have i2 : (19 : Int) < b := by omega
        have hv : Kept (t = false) := ⟨by rw [HT.out, decide_eq_false (by omega)]⟩
        clear hab h
        go_wp2_with fail
        go_meet
        exact ⟨by first | (rw [hv.out]; done) | (rw [hv.out]; congr 1; simp; done) | (rw [hv.out]; congr 1; simp; omega), rfl⟩
      · have i1 : (11 : Int) ≤ b := by omega
        have i2 : (b : Int) ≤ 19 := by omega
        have hv : Kept (t = true) := ⟨by rw [HT.out, decide_eq_true (by omega)]⟩
        clear hab h1 h2
        go_wp2_with fail
        go_meet
        exact ⟨by first | (rw [hv.out]; done) | (rw [hv.out]; congr 1; simp; done) | (rw [hv.out]; congr 1; simp; omega), rfl⟩
    case rest =>
      obtain ⟨rfl, rfl⟩ := hcut
      clear HT
      go_wp2_with fail
      go_ret
      exact ⟨ret_of (by rw [HP.out]; rfl), rfl⟩
set_option maxHeartbeats 4000000 in
theorem dof_2 (n : Nat) (w : World) (hn : n < 18446744073709551616) : Calls Tryd.prog 9 #[.int .i64 2, .int .u64 n] w fun e w' => e = .returned (.int .i64 (D.pof 2 n : Nat)) ∧ w = w' := by
  have HP : Kept (D.pof 2 n = D.pofv 2 n (n % 10) (n % 100) (D.few n) (D.teen n)) := ⟨D.pof_v 2 n⟩
  have HF : Kept (D.few n = decide (2 ≤ n % 10 ∧ n % 10 ≤ 4 ∧ ¬ (12 ≤ n % 100 ∧ n % 100 ≤ 14))) := ⟨rfl⟩
  have HT : Kept (D.teen n = decide (11 ≤ n % 100 ∧ n % 100 ≤ 19)) := ⟨rfl⟩
  have e10 : (n : Int) % 10 = ((n % 10 : Nat) : Int) := by omega
  have e100 : (n : Int) % 100 = ((n % 100 : Nat) : Int) := by omega
  obtain ⟨f, hf⟩ : ∃ f, D.few n = f := ⟨_, rfl⟩
  obtain ⟨t, ht⟩ : ∃ t, D.teen n = t := ⟨_, rfl⟩
  rw [hf, ht] at HP
  rw [hf] at HF
  rw [ht] at HT
  obtain ⟨a, ha⟩ : ∃ a, n % 10 = a := ⟨_, rfl⟩
  obtain ⟨b, hb⟩ : ∃ b, n % 100 = b := ⟨_, rfl⟩
  have hab : a < 10 ∧ b < 100 ∧ b % 10 = a ∧ (n < 100 → b = n) := by omega
  rw [ha] at e10 HP HF
  rw [hb] at e100 HP HF HT
  clear hf ht ha hb
  go_enter Tryd.func9, Tryd.ntmps9
  go_upto_region 2 with fail
  simp only [e10, e100]
  clear e10 e100
  go_cut [7] from 13 to 27 (fun s7 wx => s7 = .bool f ∧ wx = w)
  case first =>
    rcases (show a < 2 ∨ 4 < a ∨ (2 ≤ a ∧ a ≤ 4 ∧ b < 12) ∨ (2 ≤ a ∧ a ≤ 4 ∧ 12 ≤ b ∧ b ≤ 14) ∨ (2 ≤ a ∧ a ≤ 4 ∧ 14 < b) by omega) with h | h | ⟨h1, h2, h3⟩ | ⟨h1, h2, h3, h4⟩ | ⟨h1, h2, h3⟩
    · have i1 : (a : Int) < 2 := by omega
      have hv : Kept (f = false) := ⟨by rw [HF.out, decide_eq_false (by omega)]⟩
      clear hab h
      go_wp2_with fail
      go_meet
      exact ⟨by first | (rw [hv.out]; done) | (rw [hv.out]; congr 1; simp; done) | (rw [hv.out]; congr 1; simp; omega), rfl⟩
    · have i1 : (2 : Int) ≤ a := by omega
      have i2 : (4 : Int) < a := by omega
      have hv : Kept (f = false) := ⟨by rw [HF.out, decide_eq_false (by omega)]⟩
      clear hab h
      go_wp2_with fail
      go_meet
      exact ⟨by first | (rw [hv.out]; done) | (rw [hv.out]; congr 1; simp; done) | (rw [hv.out]; congr 1; simp; omega), rfl⟩
    · have i1 : (2 : Int) ≤ a := by omega
      have i2 : (a : Int) ≤ 4 := by omega
      have i3 : (b : Int) < 12 := by omega
      have hv : Kept (f = true) := ⟨by rw [HF.out, decide_eq_true (by omega)]⟩
      clear hab h1 h2 h3
      go_wp2_with fail
      go_meet
      exact ⟨by first | (rw [hv.out]; done) | (rw [hv.out]; congr 1; simp; done) | (rw [hv.out]; congr 1; simp; omega), rfl⟩
    · have i1 : (2 : Int) ≤ a := by omega
      have i2 : (a : Int) ≤ 4 := by omega
      have i3 : (12 : Int) ≤ b := by omega
      have i4 : (b : Int) ≤ 14 := by omega
      have hv : Kept (f = false) := ⟨by rw [HF.out, decide_eq_false (by omega)]⟩
      clear hab h1 h2 h3 h4
      go_wp2_with fail
      go_meet
      exact ⟨by first | (rw [hv.out]; done) | (rw [hv.out]; congr 1; simp; done) | (rw [hv.out]; congr 1; simp; omega), rfl⟩
    · have i1 : (2 : Int) ≤ a := by omega
      have i2 : (a : Int) ≤ 4 := by omega
      have i3 : (12 : Int) ≤ b := by omega
      have i4 : (14 : Int) < b := by omega
      have hv : Kept (f = true) := ⟨by rw [HF.out, decide_eq_true (by omega)]⟩
      clear hab h1 h2 h3
      go_wp2_with fail
      go_meet
      exact ⟨by first | (rw [hv.out]; done) | (rw [hv.out]; congr 1; simp; done) | (rw [hv.out]; congr 1; simp; omega), rfl⟩
  case rest =>
    obtain ⟨rfl, rfl⟩ := hcut
    clear HF
    go_upto_region 3 with fail
    go_cut [8] from 28 to 33 (fun s8 wx => s8 = .bool t ∧ wx = wc)
    case first =>
      rcases (show b < 11 ∨ 19 < b ∨ (11 ≤ b ∧ b ≤ 19) by omega) with h | h | ⟨h1, h2⟩
      · have i1 : (b : Int) < 11 := by omega
        have hv : Kept (t = false) := ⟨by rw [HT.out, decide_eq_false (by omega)]⟩
        clear hab h
        go_wp2_with fail
        go_meet
        exact ⟨by first | (rw [hv.out]; done) | (rw [hv.out]; congr 1; simp; done) | (rw [hv.out]; congr 1; simp; omega), rfl⟩
      · have i1 : (11 : Int) ≤ b := by omega
        have i2 : (19 : Int) < b := by omega
        have hv : Kept (t = false) := ⟨by rw [HT.out, decide_eq_false (by omega)]⟩
        clear hab h
        go_wp2_with fail
        go_meet
        exact ⟨by first | (rw [hv.out]; done) | (rw [hv.out]; congr 1; simp; done) | (rw [hv.out]; congr 1; simp; omega), rfl⟩
      · have i1 : (11 : Int) ≤ b := by omega
        have i2 : (b : Int) ≤ 19 := by omega
        have hv : Kept (t = true) := ⟨by rw [HT.out, decide_eq_true (by omega)]⟩
        clear hab h1 h2
        go_wp2_with fail
        go_meet
        exact ⟨by first | (rw [hv.out]; done) | (rw [hv.out]; congr 1; simp; done) | (rw [hv.out]; congr 1; simp; omega), rfl⟩
    case rest =>
      obtain ⟨rfl, rfl⟩ := hcut
      clear HT
      have hd : (n = 0) ∨ (n ≠ 0 ∧ n = 1) ∨ (n ≠ 0 ∧ n ≠ 1) := by
        omega
      rcases hd with e0 | ⟨e0, e1⟩ | ⟨e0, e1⟩
      · have i0 : ((n : Int) == 0) = true := by simp; omega
        have HV : Kept (D.pofv 2 n a b f t = 1) := ⟨by unfold D.pofv; simp <;> (repeat' split) <;> omega⟩
        clear e0
        go_wp2_with fail
        go_ret
        exact ⟨ret_of (by rw [HP.out, HV.out]; rfl), rfl⟩
      · have i0 : ((n : Int) == 0) = false := by simp; omega
        have i1 : ((n : Int) == 1) = true := by simp; omega
        have HV : Kept (D.pofv 2 n a b f t = 1) := ⟨by unfold D.pofv; simp <;> (repeat' split) <;> omega⟩
        clear e0 e1
        go_wp2_with fail
        go_ret
        exact ⟨ret_of (by rw [HP.out, HV.out]; rfl), rfl⟩
      · have i0 : ((n : Int) == 0) = false := by simp; omega
        have i1 : ((n : Int) == 1) = false := by simp; omega
        have HV : Kept (D.pofv 2 n a b f t = 5) := ⟨by unfold D.pofv; simp <;> (repeat' split) <;> omega⟩
        clear e0 e1
        go_wp2_with fail
        go_ret
        exact ⟨ret_of (by rw [HP.out, HV.out]; rfl), rfl⟩
set_option maxHeartbeats 4000000 in
theorem dof_3 (n : Nat) (w : World) (hn : n < 18446744073709551616) : Calls Tryd.prog 9 #[.int .i64 3, .int .u64 n] w fun e w' => e = .returned (.int .i64 (D.pof 3 n : Nat)) ∧ w = w' := by
  have HP : Kept (D.pof 3 n = D.pofv 3 n (n % 10) (n % 100) (D.few n) (D.teen n)) := ⟨D.pof_v 3 n⟩
  have HF : Kept (D.few n = decide (2 ≤ n % 10 ∧ n % 10 ≤ 4 ∧ ¬ (12 ≤ n % 100 ∧ n % 100 ≤ 14))) := ⟨rfl⟩
  have HT : Kept (D.teen n = decide (11 ≤ n % 100 ∧ n % 100 ≤ 19)) := ⟨rfl⟩
  have e10 : (n : Int) % 10 = ((n % 10 : Nat) : Int) := by omega
  have e100 : (n : Int) % 100 = ((n % 100 : Nat) : Int) := by omega
  obtain ⟨f, hf⟩ : ∃ f, D.few n = f := ⟨_, rfl⟩
  obtain ⟨t, ht⟩ : ∃ t, D.teen n = t := ⟨_, rfl⟩
  rw [hf, ht] at HP
  rw [hf] at HF
  rw [ht] at HT
  obtain ⟨a, ha⟩ : ∃ a, n % 10 = a := ⟨_, rfl⟩
  obtain ⟨b, hb⟩ : ∃ b, n % 100 = b := ⟨_, rfl⟩
  have hab : a < 10 ∧ b < 100 ∧ b % 10 = a ∧ (n < 100 → b = n) := by omega
  rw [ha] at e10 HP HF
  rw [hb] at e100 HP HF HT
  clear hf ht ha hb
  go_enter Tryd.func9, Tryd.ntmps9
  go_upto_region 2 with fail
  simp only [e10, e100]
  clear e10 e100
  go_cut [7] from 13 to 27 (fun s7 wx => s7 = .bool f ∧ wx = w)
  case first =>
    rcases (show a < 2 ∨ 4 < a ∨ (2 ≤ a ∧ a ≤ 4 ∧ b < 12) ∨ (2 ≤ a ∧ a ≤ 4 ∧ 12 ≤ b ∧ b ≤ 14) ∨ (2 ≤ a ∧ a ≤ 4 ∧ 14 < b) by omega) with h | h | ⟨h1, h2, h3⟩ | ⟨h1, h2, h3, h4⟩ | ⟨h1, h2, h3⟩
    · have i1 : (a : Int) < 2 := by omega
      have hv : Kept (f = false) := ⟨by rw [HF.out, decide_eq_false (by omega)]⟩
      clear hab h
      go_wp2_with fail
      go_meet
      exact ⟨by first | (rw [hv.out]; done) | (rw [hv.out]; congr 1; simp; done) | (rw [hv.out]; congr 1; simp; omega), rfl⟩
    · have i1 : (2 : Int) ≤ a := by omega
      have i2 : (4 : Int) < a := by omega
      have hv : Kept (f = false) := ⟨by rw [HF.out, decide_eq_false (by omega)]⟩
      clear hab h
      go_wp2_with fail
      go_meet
      exact ⟨by first | (rw [hv.out]; done) | (rw [hv.out]; congr 1; simp; done) | (rw [hv.out]; congr 1; simp; omega), rfl⟩
    · have i1 : (2 : Int) ≤ a := by omega
      have i2 : (a : Int) ≤ 4 := by omega
      have i3 : (b : Int) < 12 := by omega
      have hv : Kept (f = true) := ⟨by rw [HF.out, decide_eq_true (by omega)]⟩
      clear hab h1 h2 h3
      go_wp2_with fail
      go_meet
      exact ⟨by first | (rw [hv.out]; done) | (rw [hv.out]; congr 1; simp; done) | (rw [hv.out]; congr 1; simp; omega), rfl⟩
    · have i1 : (2 : Int) ≤ a := by omega
      have i2 : (a : Int) ≤ 4 := by omega
      have i3 : (12 : Int) ≤ b := by omega
      have i4 : (b : Int) ≤ 14 := by omega
      have hv : Kept (f = false) := ⟨by rw [HF.out, decide_eq_false (by omega)]⟩
      clear hab h1 h2 h3 h4
      go_wp2_with fail
      go_meet
      exact ⟨by first | (rw [hv.out]; done) | (rw [hv.out]; congr 1; simp; done) | (rw [hv.out]; congr 1; simp; omega), rfl⟩
    · have i1 : (2 : Int) ≤ a := by omega
      have i2 : (a : Int) ≤ 4 := by omega
      have i3 : (12 : Int) ≤ b := by omega
      have i4 : (14 : Int) < b := by omega
      have hv : Kept (f = true) := ⟨by rw [HF.out, decide_eq_true (by omega)]⟩
      clear hab h1 h2 h3
      go_wp2_with fail
      go_meet
      exact ⟨by first | (rw [hv.out]; done) | (rw [hv.out]; congr 1; simp; done) | (rw [hv.out]; congr 1; simp; omega), rfl⟩
  case rest =>
    obtain ⟨rfl, rfl⟩ := hcut
    clear HF
    go_upto_region 3 with fail
    go_cut [8] from 28 to 33 (fun s8 wx => s8 = .bool t ∧ wx = wc)
    case first =>
      rcases (show b < 11 ∨ 19 < b ∨ (11 ≤ b ∧ b ≤ 19) by omega) with h | h | ⟨h1, h2⟩
      · have i1 : (b : Int) < 11 := by omega
        have hv : Kept (t = false) := ⟨by rw [HT.out, decide_eq_false (by omega)]⟩
        clear hab h
        go_wp2_with fail
        go_meet
        exact ⟨by first | (rw [hv.out]; done) | (rw [hv.out]; congr 1; simp; done) | (rw [hv.out]; congr 1; simp; omega), rfl⟩
      · have i1 : (11 : Int) ≤ b := by omega
        have i2 : (19 : Int) < b := by omega
        have hv : Kept (t = false) := ⟨by rw [HT.out, decide_eq_false (by omega)]⟩
        clear hab h
        go_wp2_with fail
        go_meet
        exact ⟨by first | (rw [hv.out]; done) | (rw [hv.out]; congr 1; simp; done) | (rw [hv.out]; congr 1; simp; omega), rfl⟩
      · have i1 : (11 : Int) ≤ b := by omega
        have i2 : (b : Int) ≤ 19 := by omega
        have hv : Kept (t = true) := ⟨by rw [HT.out, decide_eq_true (by omega)]⟩
        clear hab h1 h2
        go_wp2_with fail
        go_meet
        exact ⟨by first | (rw [hv.out]; done) | (rw [hv.out]; congr 1; simp; done) | (rw [hv.out]; congr 1; simp; omega), rfl⟩
    case rest =>
      obtain ⟨rfl, rfl⟩ := hcut
      clear HT
      have hd : (a = 1 ∧ b ≠ 11) ∨ (a = 1 ∧ b = 11 ∧ f = true) ∨ (a = 1 ∧ b = 11 ∧ f = false) ∨ (a ≠ 1 ∧ f = true) ∨ (a ≠ 1 ∧ f = false) := by
        cases f
        all_goals simp only [reduceCtorEq, and_true, and_false, or_false, false_or, or_true, true_or, true_and]
        all_goals omega
      rcases hd with ⟨e0, e1⟩ | ⟨e0, e1, e2⟩ | ⟨e0, e1, e2⟩ | ⟨e0, e1⟩ | ⟨e0, e1⟩
      · have i0 : ((a : Int) == 1) = true := by simp; omega
        have i1 : ((b : Int) != 11) = true := by simp; omega
        have HV : Kept (D.pofv 3 n a b f t = 1) := ⟨by unfold D.pofv; simp <;> (repeat' split) <;> omega⟩
        clear e0 e1
        go_wp2_with fail
        go_ret
        exact ⟨ret_of (by rw [HP.out, HV.out]; rfl), rfl⟩
      · have i0 : ((a : Int) == 1) = true := by simp; omega
        have i1 : ((b : Int) != 11) = false := by simp; omega
        subst e2
        have HV : Kept (D.pofv 3 n a b true t = 3) := ⟨by unfold D.pofv; simp <;> (repeat' split) <;> omega⟩
        clear e0 e1
        go_wp2_with fail
        go_ret
        exact ⟨ret_of (by rw [HP.out, HV.out]; rfl), rfl⟩
      · have i0 : ((a : Int) == 1) = true := by simp; omega
        have i1 : ((b : Int) != 11) = false := by simp; omega
        subst e2
        have HV : Kept (D.pofv 3 n a b false t = 4) := ⟨by unfold D.pofv; simp <;> (repeat' split) <;> omega⟩
        clear e0 e1
        go_wp2_with fail
        go_ret
        exact ⟨ret_of (by rw [HP.out, HV.out]; rfl), rfl⟩
      · have i0 : ((a : Int) == 1) = false := by simp; omega
        subst e1
        have HV : Kept (D.pofv 3 n a b true t = 3) := ⟨by unfold D.pofv; simp <;> (repeat' split) <;> omega⟩
        clear e0
        go_wp2_with fail
        go_ret
        exact ⟨ret_of (by rw [HP.out, HV.out]; rfl), rfl⟩
      · have i0 : ((a : Int) == 1) = false := by simp; omega
        subst e1
        have HV : Kept (D.pofv 3 n a b false t = 4) := ⟨by unfold D.pofv; simp <;> (repeat' split) <;> omega⟩
        clear e0
        go_wp2_with fail
        go_ret
        exact ⟨ret_of (by rw [HP.out, HV.out]; rfl), rfl⟩
set_option maxHeartbeats 4000000 in
theorem dof_4 (n : Nat) (w : World) (hn : n < 18446744073709551616) : Calls Tryd.prog 9 #[.int .i64 4, .int .u64 n] w fun e w' => e = .returned (.int .i64 (D.pof 4 n : Nat)) ∧ w = w' := by
  have HP : Kept (D.pof 4 n = D.pofv 4 n (n % 10) (n % 100) (D.few n) (D.teen n)) := ⟨D.pof_v 4 n⟩
  have HF : Kept (D.few n = decide (2 ≤ n % 10 ∧ n % 10 ≤ 4 ∧ ¬ (12 ≤ n % 100 ∧ n % 100 ≤ 14))) := ⟨rfl⟩
  have HT : Kept (D.teen n = decide (11 ≤ n % 100 ∧ n % 100 ≤ 19)) := ⟨rfl⟩
  have e10 : (n : Int) % 10 = ((n % 10 : Nat) : Int) := by omega
  have e100 : (n : Int) % 100 = ((n % 100 : Nat) : Int) := by omega
  obtain ⟨f, hf⟩ : ∃ f, D.few n = f := ⟨_, rfl⟩
  obtain ⟨t, ht⟩ : ∃ t, D.teen n = t := ⟨_, rfl⟩
  rw [hf, ht] at HP
  rw [hf] at HF
  rw [ht] at HT
  obtain ⟨a, ha⟩ : ∃ a, n % 10 = a := ⟨_, rfl⟩
  obtain ⟨b, hb⟩ : ∃ b, n % 100 = b := ⟨_, rfl⟩
  have hab : a < 10 ∧ b < 100 ∧ b % 10 = a ∧ (n < 100 → b = n) := by omega
  rw [ha] at e10 HP HF
  rw [hb] at e100 HP HF HT
  clear hf ht ha hb
  go_enter Tryd.func9, Tryd.ntmps9
  go_upto_region 2 with fail
  simp only [e10, e100]
  clear e10 e100
  go_cut [7] from 13 to 27 (fun s7 wx => s7 = .bool f ∧ wx = w)
  case first =>
    rcases (show a < 2 ∨ 4 < a ∨ (2 ≤ a ∧ a ≤ 4 ∧ b < 12) ∨ (2 ≤ a ∧ a ≤ 4 ∧ 12 ≤ b ∧ b ≤ 14) ∨ (2 ≤ a ∧ a ≤ 4 ∧ 14 < b) by omega) with h | h | ⟨h1, h2, h3⟩ | ⟨h1, h2, h3, h4⟩ | ⟨h1, h2, h3⟩
    · have i1 : (a : Int) < 2 := by omega
      have hv : Kept (f = false) := ⟨by rw [HF.out, decide_eq_false (by omega)]⟩
      clear hab h
      go_wp2_with fail
      go_meet
      exact ⟨by first | (rw [hv.out]; done) | (rw [hv.out]; congr 1; simp; done) | (rw [hv.out]; congr 1; simp; omega), rfl⟩
    · have i1 : (2 : Int) ≤ a := by omega
      have i2 : (4 : Int) < a := by omega
      have hv : Kept (f = false) := ⟨by rw [HF.out, decide_eq_false (by omega)]⟩
      clear hab h
      go_wp2_with fail
      go_meet
      exact ⟨by first | (rw [hv.out]; done) | (rw [hv.out]; congr 1; simp; done) | (rw [hv.out]; congr 1; simp; omega), rfl⟩
    · have i1 : (2 : Int) ≤ a := by omega
      have i2 : (a : Int) ≤ 4 := by omega
      have i3 : (b : Int) < 12 := by omega
      have hv : Kept (f = true) := ⟨by rw [HF.out, decide_eq_true (by omega)]⟩
      clear hab h1 h2 h3
      go_wp2_with fail
      go_meet
      exact ⟨by first | (rw [hv.out]; done) | (rw [hv.out]; congr 1; simp; done) | (rw [hv.out]; congr 1; simp; omega), rfl⟩
    · have i1 : (2 : Int) ≤ a := by omega
      have i2 : (a : Int) ≤ 4 := by omega
      have i3 : (12 : Int) ≤ b := by omega
      have i4 : (b : Int) ≤ 14 := by omega
      have hv : Kept (f = false) := ⟨by rw [HF.out, decide_eq_false (by omega)]⟩
      clear hab h1 h2 h3 h4
      go_wp2_with fail
      go_meet
      exact ⟨by first | (rw [hv.out]; done) | (rw [hv.out]; congr 1; simp; done) | (rw [hv.out]; congr 1; simp; omega), rfl⟩
    · have i1 : (2 : Int) ≤ a := by omega
      have i2 : (a : Int) ≤ 4 := by omega
      have i3 : (12 : Int) ≤ b := by omega
      have i4 : (14 : Int) < b := by omega
      have hv : Kept (f = true) := ⟨by rw [HF.out, decide_eq_true (by omega)]⟩
      clear hab h1 h2 h3
      go_wp2_with fail
      go_meet
      exact ⟨by first | (rw [hv.out]; done) | (rw [hv.out]; congr 1; simp; done) | (rw [hv.out]; congr 1; simp; omega), rfl⟩
  case rest =>
    obtain ⟨rfl, rfl⟩ := hcut
    clear HF
    go_upto_region 3 with fail
    go_cut [8] from 28 to 33 (fun s8 wx => s8 = .bool t ∧ wx = wc)
    case first =>
      rcases (show b < 11 ∨ 19 < b ∨ (11 ≤ b ∧ b ≤ 19) by omega) with h | h | ⟨h1, h2⟩
      · have i1 : (b : Int) < 11 := by omega
        have hv : Kept (t = false) := ⟨by rw [HT.out, decide_eq_false (by omega)]⟩
        clear hab h
        go_wp2_with fail
        go_meet
        exact ⟨by first | (rw [hv.out]; done) | (rw [hv.out]; congr 1; simp; done) | (rw [hv.out]; congr 1; simp; omega), rfl⟩
      · have i1 : (11 : Int) ≤ b := by omega
        have i2 : (19 : Int) < b := by omega
        have hv : Kept (t = false) := ⟨by rw [HT.out, decide_eq_false (by omega)]⟩
        clear hab h
        go_wp2_with fail
        go_meet
        exact ⟨by first | (rw [hv.out]; done) | (rw [hv.out]; congr 1; simp; done) | (rw [hv.out]; congr 1; simp; omega), rfl⟩
      · have i1 : (11 : Int) ≤ b := by omega
        have i2 : (b : Int) ≤ 19 := by omega
        have hv : Kept (t = true) := ⟨by rw [HT.out, decide_eq_true (by omega)]⟩
        clear hab h1 h2
        go_wp2_with fail
        go_meet
        exact ⟨by first | (rw [hv.out]; done) | (rw [hv.out]; congr 1; simp; done) | (rw [hv.out]; congr 1; simp; omega), rfl⟩
    case rest =>
      obtain ⟨rfl, rfl⟩ := hcut
      clear HT
      have hd : (n = 1) ∨ (n ≠ 1 ∧ f = true) ∨ (n ≠ 1 ∧ f = false) := by
        cases f
        all_goals simp only [reduceCtorEq, and_true, and_false, or_false, false_or, or_true, true_or, true_and]
        all_goals omega
      rcases hd with e0 | ⟨e0, e1⟩ | ⟨e0, e1⟩
      · have i0 : ((n : Int) == 1) = true := by simp; omega
        have HV : Kept (D.pofv 4 n a b f t = 1) := ⟨by unfold D.pofv; simp <;> (repeat' split) <;> omega⟩
        clear e0
        go_wp2_with fail
        go_ret
        exact ⟨ret_of (by rw [HP.out, HV.out]; rfl), rfl⟩
      · have i0 : ((n : Int) == 1) = false := by simp; omega
        subst e1
        have HV : Kept (D.pofv 4 n a b true t = 3) := ⟨by unfold D.pofv; simp <;> (repeat' split) <;> omega⟩
        clear e0
        go_wp2_with fail
        go_ret
        exact ⟨ret_of (by rw [HP.out, HV.out]; rfl), rfl⟩
      · have i0 : ((n : Int) == 1) = false := by simp; omega
        subst e1
        have HV : Kept (D.pofv 4 n a b false t = 4) := ⟨by unfold D.pofv; simp <;> (repeat' split) <;> omega⟩
        clear e0
        go_wp2_with fail
        go_ret
        exact ⟨ret_of (by rw [HP.out, HV.out]; rfl), rfl⟩
set_option maxHeartbeats 4000000 in
theorem dof_5 (n : Nat) (w : World) (hn : n < 18446744073709551616) : Calls Tryd.prog 9 #[.int .i64 5, .int .u64 n] w fun e w' => e = .returned (.int .i64 (D.pof 5 n : Nat)) ∧ w = w' := by
  have HP : Kept (D.pof 5 n = D.pofv 5 n (n % 10) (n % 100) (D.few n) (D.teen n)) := ⟨D.pof_v 5 n⟩
  have HF : Kept (D.few n = decide (2 ≤ n % 10 ∧ n % 10 ≤ 4 ∧ ¬ (12 ≤ n % 100 ∧ n % 100 ≤ 14))) := ⟨rfl⟩
  have HT : Kept (D.teen n = decide (11 ≤ n % 100 ∧ n % 100 ≤ 19)) := ⟨rfl⟩
  have e10 : (n : Int) % 10 = ((n % 10 : Nat) : Int) := by omega
  have e100 : (n : Int) % 100 = ((n % 100 : Nat) : Int) := by omega
  obtain ⟨f, hf⟩ : ∃ f, D.few n = f := ⟨_, rfl⟩
  obtain ⟨t, ht⟩ : ∃ t, D.teen n = t := ⟨_, rfl⟩
  rw [hf, ht] at HP
  rw [hf] at HF
  rw [ht] at HT
  obtain ⟨a, ha⟩ : ∃ a, n % 10 = a := ⟨_, rfl⟩
  obtain ⟨b, hb⟩ : ∃ b, n % 100 = b := ⟨_, rfl⟩
  have hab : a < 10 ∧ b < 100 ∧ b % 10 = a ∧ (n < 100 → b = n) := by omega
  rw [ha] at e10 HP HF
  rw [hb] at e100 HP HF HT
  clear hf ht ha hb
  go_enter Tryd.func9, Tryd.ntmps9
  go_upto_region 2 with fail
  simp only [e10, e100]
  clear e10 e100
  go_cut [7] from 13 to 27 (fun s7 wx => s7 = .bool f ∧ wx = w)
  case first =>
    rcases (show a < 2 ∨ 4 < a ∨ (2 ≤ a ∧ a ≤ 4 ∧ b < 12) ∨ (2 ≤ a ∧ a ≤ 4 ∧ 12 ≤ b ∧ b ≤ 14) ∨ (2 ≤ a ∧ a ≤ 4 ∧ 14 < b) by omega) with h | h | ⟨h1, h2, h3⟩ | ⟨h1, h2, h3, h4⟩ | ⟨h1, h2, h3⟩
    · have i1 : (a : Int) < 2 := by omega
      have hv : Kept (f = false) := ⟨by rw [HF.out, decide_eq_false (by omega)]⟩
      clear hab h
      go_wp2_with fail
      go_meet
      exact ⟨by first | (rw [hv.out]; done) | (rw [hv.out]; congr 1; simp; done) | (rw [hv.out]; congr 1; simp; omega), rfl⟩
    · have i1 : (2 : Int) ≤ a := by omega
      have i2 : (4 : Int) < a := by omega
      have hv : Kept (f = false) := ⟨by rw [HF.out, decide_eq_false (by omega)]⟩
      clear hab h
      go_wp2_with fail
      go_meet
      exact ⟨by first | (rw [hv.out]; done) | (rw [hv.out]; congr 1; simp; done) | (rw [hv.out]; congr 1; simp; omega), rfl⟩
    · have i1 : (2 : Int) ≤ a := by omega
      have i2 : (a : Int) ≤ 4 := by omega
      have i3 : (b : Int) < 12 := by omega
      have hv : Kept (f = true) := ⟨by rw [HF.out, decide_eq_true (by omega)]⟩
      clear hab h1 h2 h3
      go_wp2_with fail
      go_meet
      exact ⟨by first | (rw [hv.out]; done) | (rw [hv.out]; congr 1; simp; done) | (rw [hv.out]; congr 1; simp; omega), rfl⟩
    · have i1 : (2 : Int) ≤ a := by omega
      have i2 : (a : Int) ≤ 4 := by omega
      have i3 : (12 : Int) ≤ b := by omega
      have i4 : (b : Int) ≤ 14 := by omega
      have hv : Kept (f = false) := ⟨by rw [HF.out, decide_eq_false (by omega)]⟩
      clear hab h1 h2 h3 h4
      go_wp2_with fail
      go_meet
      exact ⟨by first | (rw [hv.out]; done) | (rw [hv.out]; congr 1; simp; done) | (rw [hv.out]; congr 1; simp; omega), rfl⟩
    · have i1 : (2 : Int) ≤ a := by omega
      have i2 : (a : Int) ≤ 4 := by omega
      have i3 : (12 : Int) ≤ b := by omega
      have i4 : (14 : Int) < b := by omega
      have hv : Kept (f = true) := ⟨by rw [HF.out, decide_eq_true (by omega)]⟩
      clear hab h1 h2 h3
      go_wp2_with fail
      go_meet
      exact ⟨by first | (rw [hv.out]; done) | (rw [hv.out]; congr 1; simp; done) | (rw [hv.out]; congr 1; simp; omega), rfl⟩
  case rest =>
    obtain ⟨rfl, rfl⟩ := hcut
    clear HF
    go_upto_region 3 with fail
    go_cut [8] from 28 to 33 (fun s8 wx => s8 = .bool t ∧ wx = wc)
    case first =>
      rcases (show b < 11 ∨ 19 < b ∨ (11 ≤ b ∧ b ≤ 19) by omega) with h | h | ⟨h1, h2⟩
      · have i1 : (b : Int) < 11 := by omega
        have hv : Kept (t = false) := ⟨by rw [HT.out, decide_eq_false (by omega)]⟩
        clear hab h
        go_wp2_with fail
        go_meet
        exact ⟨by first | (rw [hv.out]; done) | (rw [hv.out]; congr 1; simp; done) | (rw [hv.out]; congr 1; simp; omega), rfl⟩
      · have i1 : (11 : Int) ≤ b := by omega
        have i2 : (19 : Int) < b := by omega
        have hv : Kept (t = false) := ⟨by rw [HT.out, decide_eq_false (by omega)]⟩
        clear hab h
        go_wp2_with fail
        go_meet
        exact ⟨by first | (rw [hv.out]; done) | (rw [hv.out]; congr 1; simp; done) | (rw [hv.out]; congr 1; simp; omega), rfl⟩
      · have i1 : (11 : Int) ≤ b := by omega
        have i2 : (b : Int) ≤ 19 := by omega
        have hv : Kept (t = true) := ⟨by rw [HT.out, decide_eq_true (by omega)]⟩
        clear hab h1 h2
        go_wp2_with fail
        go_meet
        exact ⟨by first | (rw [hv.out]; done) | (rw [hv.out]; congr 1; simp; done) | (rw [hv.out]; congr 1; simp; omega), rfl⟩
    case rest =>
      obtain ⟨rfl, rfl⟩ := hcut
      clear HT
      have hd : (n = 1) ∨ (n ≠ 1 ∧ n < 2) ∨ (n ≠ 1 ∧ 2 ≤ n ∧ n ≤ 4) ∨ (n ≠ 1 ∧ 2 ≤ n ∧ 4 < n) := by
        omega
      rcases hd with e0 | ⟨e0, e1⟩ | ⟨e0, e1, e2⟩ | ⟨e0, e1, e2⟩
      · have i0 : ((n : Int) == 1) = true := by simp; omega
        have HV : Kept (D.pofv 5 n a b f t = 1) := ⟨by unfold D.pofv; simp <;> (repeat' split) <;> omega⟩
        clear e0
        go_wp2_with fail
        go_ret
        exact ⟨ret_of (by rw [HP.out, HV.out]; rfl), rfl⟩
      · have i0 : ((n : Int) == 1) = false := by simp; omega
        have i1 : (n : Int) < 2 := by omega
        have HV : Kept (D.pofv 5 n a b f t = 5) := ⟨by unfold D.pofv; simp <;> (repeat' split) <;> omega⟩
        clear e0 e1
        go_wp2_with fail
        go_ret
        exact ⟨ret_of (by rw [HP.out, HV.out]; rfl), rfl⟩
      · have i0 : ((n : Int) == 1) = false := by simp; omega
        have i1 : (2 : Int) ≤ n := by omega
        have i2 : (n : Int) ≤ 4 := by omega
        have HV : Kept (D.pofv 5 n a b f t = 3) := ⟨by unfold D.pofv; simp <;> (repeat' split) <;> omega⟩
        clear e0 e1 e2
        go_wp2_with fail
        go_ret
        exact ⟨ret_of (by rw [HP.out, HV.out]; rfl), rfl⟩
      · have i0 : ((n : Int) == 1) = false := by simp; omega
        have i1 : (2 : Int) ≤ n := by omega
        have i2 : (4 : Int) < n := by omega
        have HV : Kept (D.pofv 5 n a b f t = 5) := ⟨by unfold D.pofv; simp <;> (repeat' split) <;> omega⟩
        clear e0 e1 e2
        go_wp2_with fail
        go_ret
        exact ⟨ret_of (by rw [HP.out, HV.out]; rfl), rfl⟩
set_option maxHeartbeats 4000000 in
theorem dof_6 (n : Nat) (w : World) (hn : n < 18446744073709551616) : Calls Tryd.prog 9 #[.int .i64 6, .int .u64 n] w fun e w' => e = .returned (.int .i64 (D.pof 6 n : Nat)) ∧ w = w' := by
  have HP : Kept (D.pof 6 n = D.pofv 6 n (n % 10) (n % 100) (D.few n) (D.teen n)) := ⟨D.pof_v 6 n⟩
  have HF : Kept (D.few n = decide (2 ≤ n % 10 ∧ n % 10 ≤ 4 ∧ ¬ (12 ≤ n % 100 ∧ n % 100 ≤ 14))) := ⟨rfl⟩
  have HT : Kept (D.teen n = decide (11 ≤ n % 100 ∧ n % 100 ≤ 19)) := ⟨rfl⟩
  have e10 : (n : Int) % 10 = ((n % 10 : Nat) : Int) := by omega
  have e100 : (n : Int) % 100 = ((n % 100 : Nat) : Int) := by omega
  obtain ⟨f, hf⟩ : ∃ f, D.few n = f := ⟨_, rfl⟩
  obtain ⟨t, ht⟩ : ∃ t, D.teen n = t := ⟨_, rfl⟩
  rw [hf, ht] at HP
  rw [hf] at HF
  rw [ht] at HT
  obtain ⟨a, ha⟩ : ∃ a, n % 10 = a := ⟨_, rfl⟩
  obtain ⟨b, hb⟩ : ∃ b, n % 100 = b := ⟨_, rfl⟩
  have hab : a < 10 ∧ b < 100 ∧ b % 10 = a ∧ (n < 100 → b = n) := by omega
  rw [ha] at e10 HP HF
  rw [hb] at e100 HP HF HT
  clear hf ht ha hb
  go_enter Tryd.func9, Tryd.ntmps9
  go_upto_region 2 with fail
  simp only [e10, e100]
  clear e10 e100
  go_cut [7] from 13 to 27 (fun s7 wx => s7 = .bool f ∧ wx = w)
  case first =>
    rcases (show a < 2 ∨ 4 < a ∨ (2 ≤ a ∧ a ≤ 4 ∧ b < 12) ∨ (2 ≤ a ∧ a ≤ 4 ∧ 12 ≤ b ∧ b ≤ 14) ∨ (2 ≤ a ∧ a ≤ 4 ∧ 14 < b) by omega) with h | h | ⟨h1, h2, h3⟩ | ⟨h1, h2, h3, h4⟩ | ⟨h1, h2, h3⟩
    · have i1 : (a : Int) < 2 := by omega
      have hv : Kept (f = false) := ⟨by rw [HF.out, decide_eq_false (by omega)]⟩
      clear hab h
      go_wp2_with fail
      go_meet
      exact ⟨by first | (rw [hv.out]; done) | (rw [hv.out]; congr 1; simp; done) | (rw [hv.out]; congr 1; simp; omega), rfl⟩
    · have i1 : (2 : Int) ≤ a := by omega
      have i2 : (4 : Int) < a := by omega
      have hv : Kept (f = false) := ⟨by rw [HF.out, decide_eq_false (by omega)]⟩
      clear hab h
      go_wp2_with fail
      go_meet
      exact ⟨by first | (rw [hv.out]; done) | (rw [hv.out]; congr 1; simp; done) | (rw [hv.out]; congr 1; simp; omega), rfl⟩
    · have i1 : (2 : Int) ≤ a := by omega
      have i2 : (a : Int) ≤ 4 := by omega
      have i3 : (b : Int) < 12 := by omega
      have hv : Kept (f = true) := ⟨by rw [HF.out, decide_eq_true (by omega)]⟩
      clear hab h1 h2 h3
      go_wp2_with fail
      go_meet
      exact ⟨by first | (rw [hv.out]; done) | (rw [hv.out]; congr 1; simp; done) | (rw [hv.out]; congr 1; simp; omega), rfl⟩
    · have i1 : (2 : Int) ≤ a := by omega
      have i2 : (a : Int) ≤ 4 := by omega
      have i3 : (12 : Int) ≤ b := by omega
      have i4 : (b : Int) ≤ 14 := by omega
      have hv : Kept (f = false) := ⟨by rw [HF.out, decide_eq_false (by omega)]⟩
      clear hab h1 h2 h3 h4
      go_wp2_with fail
      go_meet
      exact ⟨by first | (rw [hv.out]; done) | (rw [hv.out]; congr 1; simp; done) | (rw [hv.out]; congr 1; simp; omega), rfl⟩
    · have i1 : (2 : Int) ≤ a := by omega
      have i2 : (a : Int) ≤ 4 := by omega
      have i3 : (12 : Int) ≤ b := by omega
      have i4 : (14 : Int) < b := by omega
      have hv : Kept (f = true) := ⟨by rw [HF.out, decide_eq_true (by omega)]⟩
      clear hab h1 h2 h3
      go_wp2_with fail
      go_meet
      exact ⟨by first | (rw [hv.out]; done) | (rw [hv.out]; congr 1; simp; done) | (rw [hv.out]; congr 1; simp; omega), rfl⟩
  case rest =>
    obtain ⟨rfl, rfl⟩ := hcut
    clear HF
    go_upto_region 3 with fail
    go_cut [8] from 28 to 33 (fun s8 wx => s8 = .bool t ∧ wx = wc)
    case first =>
      rcases (show b < 11 ∨ 19 < b ∨ (11 ≤ b ∧ b ≤ 19) by omega) with h | h | ⟨h1, h2⟩
      · have i1 : (b : Int) < 11 := by omega
        have hv : Kept (t = false) := ⟨by rw [HT.out, decide_eq_false (by omega)]⟩
        clear hab h
        go_wp2_with fail
        go_meet
        exact ⟨by first | (rw [hv.out]; done) | (rw [hv.out]; congr 1; simp; done) | (rw [hv.out]; congr 1; simp; omega), rfl⟩
      · have i1 : (11 : Int) ≤ b := by omega
        have i2 : (19 : Int) < b := by omega
        have hv : Kept (t = false) := ⟨by rw [HT.out, decide_eq_false (by omega)]⟩
        clear hab h
        go_wp2_with fail
        go_meet
        exact ⟨by first | (rw [hv.out]; done) | (rw [hv.out]; congr 1; simp; done) | (rw [hv.out]; congr 1; simp; omega), rfl⟩
      · have i1 : (11 : Int) ≤ b := by omega
        have i2 : (b : Int) ≤ 19 := by omega
        have hv : Kept (t = true) := ⟨by rw [HT.out, decide_eq_true (by omega)]⟩
        clear hab h1 h2
        go_wp2_with fail
        go_meet
        exact ⟨by first | (rw [hv.out]; done) | (rw [hv.out]; congr 1; simp; done) | (rw [hv.out]; congr 1; simp; omega), rfl⟩
    case rest =>
      obtain ⟨rfl, rfl⟩ := hcut
      clear HT
      have hd : (n ≤ 2) ∨ (2 < n ∧ b < 3 ∧ b < 11) ∨ (2 < n ∧ 3 ≤ b ∧ b ≤ 10) ∨ (2 < n ∧ 3 ≤ b ∧ 10 < b ∧ 11 ≤ b) := by
        omega
      rcases hd with e0 | ⟨e0, e1, e2⟩ | ⟨e0, e1, e2⟩ | ⟨e0, e1, e2, e3⟩
      · have i0 : (n : Int) ≤ 2 := by omega
        have iw : IntKind.i64.wrap (n : Int) = n := IntWalk.i64_in _ (by omega)
        have HV : Kept (D.pofv 6 n a b f t = n) := ⟨by unfold D.pofv; simp <;> (repeat' split) <;> omega⟩
        clear e0
        go_wp2_with fail
        go_ret
        exact ⟨ret_of (by rw [HP.out, HV.out]), rfl⟩
      · have i0 : (2 : Int) < n := by omega
        have i1 : (b : Int) < 3 := by omega
        have i2 : (b : Int) < 11 := by omega
        have HV : Kept (D.pofv 6 n a b f t = 5) := ⟨by unfold D.pofv; simp <;> (repeat' split) <;> omega⟩
        clear e0 e1 e2
        go_wp2_with fail
        go_ret
        exact ⟨ret_of (by rw [HP.out, HV.out]; rfl), rfl⟩
      · have i0 : (2 : Int) < n := by omega
        have i1 : (3 : Int) ≤ b := by omega
        have i2 : (b : Int) ≤ 10 := by omega
        have HV : Kept (D.pofv 6 n a b f t = 3) := ⟨by unfold D.pofv; simp <;> (repeat' split) <;> omega⟩
        clear e0 e1 e2
        go_wp2_with fail
        go_ret
        exact ⟨ret_of (by rw [HP.out, HV.out]; rfl), rfl⟩
      · have i0 : (2 : Int) < n := by omega
        have i1 : (3 : Int) ≤ b := by omega
        have i2 : (10 : Int) < b := by omega
        have i3 : (11 : Int) ≤ b := by omega
        have HV : Kept (D.pofv 6 n a b f t = 4) := ⟨by unfold D.pofv; simp <;> (repeat' split) <;> omega⟩
        clear e0 e1 e2 e3
        go_wp2_with fail
        go_ret
        exact ⟨ret_of (by rw [HP.out, HV.out]; rfl), rfl⟩
set_option maxHeartbeats 4000000 in
theorem dof_7 (n : Nat) (w : World) (hn : n < 18446744073709551616) : Calls Tryd.prog 9 #[.int .i64 7, .int .u64 n] w fun e w' => e = .returned (.int .i64 (D.pof 7 n : Nat)) ∧ w = w' := by
  have HP : Kept (D.pof 7 n = D.pofv 7 n (n % 10) (n % 100) (D.few n) (D.teen n)) := ⟨D.pof_v 7 n⟩
  have HF : Kept (D.few n = decide (2 ≤ n % 10 ∧ n % 10 ≤ 4 ∧ ¬ (12 ≤ n % 100 ∧ n % 100 ≤ 14))) := ⟨rfl⟩
  have HT : Kept (D.teen n = decide (11 ≤ n % 100 ∧ n % 100 ≤ 19)) := ⟨rfl⟩
  have e10 : (n : Int) % 10 = ((n % 10 : Nat) : Int) := by omega
  have e100 : (n : Int) % 100 = ((n % 100 : Nat) : Int) := by omega
  obtain ⟨f, hf⟩ : ∃ f, D.few n = f := ⟨_, rfl⟩
  obtain ⟨t, ht⟩ : ∃ t, D.teen n = t := ⟨_, rfl⟩
  rw [hf, ht] at HP
  rw [hf] at HF
  rw [ht] at HT
  obtain ⟨a, ha⟩ : ∃ a, n % 10 = a := ⟨_, rfl⟩
  obtain ⟨b, hb⟩ : ∃ b, n % 100 = b := ⟨_, rfl⟩
  have hab : a < 10 ∧ b < 100 ∧ b % 10 = a ∧ (n < 100 → b = n) := by omega
  rw [ha] at e10 HP HF
  rw [hb] at e100 HP HF HT
  clear hf ht ha hb
  go_enter Tryd.func9, Tryd.ntmps9
  go_upto_region 2 with fail
  simp only [e10, e100]
  clear e10 e100
  go_cut [7] from 13 to 27 (fun s7 wx => s7 = .bool f ∧ wx = w)
  case first =>
    rcases (show a < 2 ∨ 4 < a ∨ (2 ≤ a ∧ a ≤ 4 ∧ b < 12) ∨ (2 ≤ a ∧ a ≤ 4 ∧ 12 ≤ b ∧ b ≤ 14) ∨ (2 ≤ a ∧ a ≤ 4 ∧ 14 < b) by omega) with h | h | ⟨h1, h2, h3⟩ | ⟨h1, h2, h3, h4⟩ | ⟨h1, h2, h3⟩
    · have i1 : (a : Int) < 2 := by omega
      have hv : Kept (f = false) := ⟨by rw [HF.out, decide_eq_false (by omega)]⟩
      clear hab h
      go_wp2_with fail
      go_meet
      exact ⟨by first | (rw [hv.out]; done) | (rw [hv.out]; congr 1; simp; done) | (rw [hv.out]; congr 1; simp; omega), rfl⟩
    · have i1 : (2 : Int) ≤ a := by omega
      have i2 : (4 : Int) < a := by omega
      have hv : Kept (f = false) := ⟨by rw [HF.out, decide_eq_false (by omega)]⟩
      clear hab h
      go_wp2_with fail
      go_meet
      exact ⟨by first | (rw [hv.out]; done) | (rw [hv.out]; congr 1; simp; done) | (rw [hv.out]; congr 1; simp; omega), rfl⟩
    · have i1 : (2 : Int) ≤ a := by omega
      have i2 : (a : Int) ≤ 4 := by omega
      have i3 : (b : Int) < 12 := by omega
      have hv : Kept (f = true) := ⟨by rw [HF.out, decide_eq_true (by omega)]⟩
      clear hab h1 h2 h3
      go_wp2_with fail
      go_meet
      exact ⟨by first | (rw [hv.out]; done) | (rw [hv.out]; congr 1; simp; done) | (rw [hv.out]; congr 1; simp; omega), rfl⟩
    · have i1 : (2 : Int) ≤ a := by omega
      have i2 : (a : Int) ≤ 4 := by omega
      have i3 : (12 : Int) ≤ b := by omega
      have i4 : (b : Int) ≤ 14 := by omega
      have hv : Kept (f = false) := ⟨by rw [HF.out, decide_eq_false (by omega)]⟩
      clear hab h1 h2 h3 h4
      go_wp2_with fail
      go_meet
      exact ⟨by first | (rw [hv.out]; done) | (rw [hv.out]; congr 1; simp; done) | (rw [hv.out]; congr 1; simp; omega), rfl⟩
    · have i1 : (2 : Int) ≤ a := by omega
      have i2 : (a : Int) ≤ 4 := by omega
      have i3 : (12 : Int) ≤ b := by omega
      have i4 : (14 : Int) < b := by omega
      have hv : Kept (f = true) := ⟨by rw [HF.out, decide_eq_true (by omega)]⟩
      clear hab h1 h2 h3
      go_wp2_with fail
      go_meet
      exact ⟨by first | (rw [hv.out]; done) | (rw [hv.out]; congr 1; simp; done) | (rw [hv.out]; congr 1; simp; omega), rfl⟩
  case rest =>
    obtain ⟨rfl, rfl⟩ := hcut
    clear HF
    go_upto_region 3 with fail
    go_cut [8] from 28 to 33 (fun s8 wx => s8 = .bool t ∧ wx = wc)
    case first =>
      rcases (show b < 11 ∨ 19 < b ∨ (11 ≤ b ∧ b ≤ 19) by omega) with h | h | ⟨h1, h2⟩
      · have i1 : (b : Int) < 11 := by omega
        have hv : Kept (t = false) := ⟨by rw [HT.out, decide_eq_false (by omega)]⟩
        clear hab h
        go_wp2_with fail
        go_meet
        exact ⟨by first | (rw [hv.out]; done) | (rw [hv.out]; congr 1; simp; done) | (rw [hv.out]; congr 1; simp; omega), rfl⟩
      · have i1 : (11 : Int) ≤ b := by omega
        have i2 : (19 : Int) < b := by omega
        have hv : Kept (t = false) := ⟨by rw [HT.out, decide_eq_false (by omega)]⟩
        clear hab h
        go_wp2_with fail
        go_meet
        exact ⟨by first | (rw [hv.out]; done) | (rw [hv.out]; congr 1; simp; done) | (rw [hv.out]; congr 1; simp; omega), rfl⟩
      · have i1 : (11 : Int) ≤ b := by omega
        have i2 : (b : Int) ≤ 19 := by omega
        have hv : Kept (t = true) := ⟨by rw [HT.out, decide_eq_true (by omega)]⟩
        clear hab h1 h2
        go_wp2_with fail
        go_meet
        exact ⟨by first | (rw [hv.out]; done) | (rw [hv.out]; congr 1; simp; done) | (rw [hv.out]; congr 1; simp; omega), rfl⟩
    case rest =>
      obtain ⟨rfl, rfl⟩ := hcut
      clear HT
      have hd : (a = 1 ∧ t = true ∧ a < 2) ∨ (a = 1 ∧ t = false) ∨ (a ≠ 1 ∧ a < 2) ∨ (a ≠ 1 ∧ 2 ≤ a ∧ t = true) ∨ (a ≠ 1 ∧ 2 ≤ a ∧ t = false) := by
        cases t
        all_goals simp only [reduceCtorEq, and_true, and_false, or_false, false_or, or_true, true_or, true_and]
        all_goals omega
      rcases hd with ⟨e0, e1, e2⟩ | ⟨e0, e1⟩ | ⟨e0, e1⟩ | ⟨e0, e1, e2⟩ | ⟨e0, e1, e2⟩
      · have i0 : ((a : Int) == 1) = true := by simp; omega
        subst e1
        have i2 : (a : Int) < 2 := by omega
        have HV : Kept (D.pofv 7 n a b f true = 5) := ⟨by unfold D.pofv; simp <;> (repeat' split) <;> omega⟩
        clear e0 e2
        go_wp2_with fail
        go_ret
        exact ⟨ret_of (by rw [HP.out, HV.out]; rfl), rfl⟩
      · have i0 : ((a : Int) == 1) = true := by simp; omega
        subst e1
        have HV : Kept (D.pofv 7 n a b f false = 1) := ⟨by unfold D.pofv; simp <;> (repeat' split) <;> omega⟩
        clear e0
        go_wp2_with fail
        go_ret
        exact ⟨ret_of (by rw [HP.out, HV.out]; rfl), rfl⟩
      · have i0 : ((a : Int) == 1) = false := by simp; omega
        have i1 : (a : Int) < 2 := by omega
        have HV : Kept (D.pofv 7 n a b f t = 5) := ⟨by unfold D.pofv; simp <;> (repeat' split) <;> omega⟩
        clear e0 e1
        go_wp2_with fail
        go_ret
        exact ⟨ret_of (by rw [HP.out, HV.out]; rfl), rfl⟩
      · have i0 : ((a : Int) == 1) = false := by simp; omega
        have i1 : (2 : Int) ≤ a := by omega
        subst e2
        have HV : Kept (D.pofv 7 n a b f true = 5) := ⟨by unfold D.pofv; simp <;> (repeat' split) <;> omega⟩
        clear e0 e1
        go_wp2_with fail
        go_ret
        exact ⟨ret_of (by rw [HP.out, HV.out]; rfl), rfl⟩
      · have i0 : ((a : Int) == 1) = false := by simp; omega
        have i1 : (2 : Int) ≤ a := by omega
        subst e2
        have HV : Kept (D.pofv 7 n a b f false = 3) := ⟨by unfold D.pofv; simp <;> (repeat' split) <;> omega⟩
        clear e0 e1
        go_wp2_with fail
        go_ret
        exact ⟨ret_of (by rw [HP.out, HV.out]; rfl), rfl⟩
theorem dof_any (g n : Nat) (w : World) (hg : g ≤ 7) (hn : n < 18446744073709551616) : Calls Tryd.prog 9 #[.int .i64 g, .int .u64 n] w fun e w' => e = .returned (.int .i64 (D.pof g n : Nat)) ∧ w = w' := by
  obtain rfl | rfl | rfl | rfl | rfl | rfl | rfl | rfl : g = 0 ∨ g = 1 ∨ g = 2 ∨ g = 3 ∨ g = 4 ∨ g = 5 ∨ g = 6 ∨ g = 7 := by omega
  · exact dof_0 n w hn
  · exact dof_1 n w hn
  · exact dof_2 n w hn
  · exact dof_3 n w hn
  · exact dof_4 n w hn
  · exact dof_5 n w hn
  · exact dof_6 n w hn
  · exact dof_7 n w hn
end Go.Proofs.YtpiajeonnhfanaaDoor
