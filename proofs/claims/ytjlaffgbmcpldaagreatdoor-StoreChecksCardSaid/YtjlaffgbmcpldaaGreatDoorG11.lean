/-
  
-/
import Derived.Test.YtjlaffgbmcpldaaGreatDoorG09
import Derived.Lib.BytesEntry
import Derived.Lib.IndexLaws
import Derived.Laws.BytesString
import Derived.Lib.BufferRead
import Derived.Test.YtjlaffgbmcpldaaGreatDoorG10
set_option linter.unusedVariables false
set_option linter.unusedSimpArgs false
set_option maxRecDepth 100000
namespace Go.Proofs.YtjlaffgbmcpldaaGreatDoor
open Go.RowKit
attribute [local go_sem ↓] Go.wp_at_zero Go.wp_at_succ

def D.cmp : List Nat → List Nat → Int
 | [], [] => 0
 | [], _ :: _ => -1
 | _ :: _, [] => 1
 | x :: a, y :: b => if x = y then D.cmp a b else if x < y then -1 else 1
end Go.Proofs.YtjlaffgbmcpldaaGreatDoor
set_option linter.unusedVariables false
set_option linter.unusedSimpArgs false
set_option maxRecDepth 100000
namespace Go.Proofs.YtjlaffgbmcpldaaGreatDoor
open Go.RowKit
theorem Shp.rd_extk {α : Type} {S : Shp α} (w : World) (p : On) (a : Addr) (h : a.block < w.heap.size) : S.rd (ext w p) a = S.rd w a := Shp.rd_to (ext_heap w p h)
attribute [local go_sem ↓] Go.wp_at_zero Go.wp_at_succ ld_k lv_k st_k eq_k ne_k bd_k ld_b lv_b st_b eq_b ne_b bd_25 ld_r lv_r st_rk eq_rk ne_rk bd_r ld_p lv_p st_px bd_p Nm.ld_a Nm.ld_n Nm.st_a Nm.st_n Nm.eq_a Nm.eq_n Nm.ne_a Nm.ne_n Nm.lv_a Nm.lv_n ld_a ld_n st_a st_n eq_a eq_n ne_a ne_n lv_a lv_n
attribute [local go_sem] run_ldk run_lvk run_stk run_eqk run_nek run_bdk_z run_ldb run_lvb run_stb run_eqb run_neb run_ldr run_lvr run_strk run_eqrk run_nerk run_bdr_z run_ldp run_lvp run_stpx Nm.run_ld_a Nm.run_ld_n Nm.run_st_n Nm.run_eq_a Nm.run_eq_n Nm.run_ne_a Nm.run_ne_n Nm.run_lv_a Nm.run_lv_n Nm.rd_new Nm.rd_old Nm.rd_drew Nm.rd_drewN run_ld_a run_ld_n run_sw_a run_sw_n run_eq_a run_eq_n run_ne_a run_ne_n run_lv_a run_lv_n st_z ne_z eq_z rd_new rd_old rd_drew rd_drewN Shp.rd_new Shp.rd_old Shp.rd_drew Shp.rd_drewN Shp.rd_set Shp.tn_new Shp.tn_old Shp.tn_drew Shp.tn_drewN tn_new tn_old tn_drew tn_drewN rd_set setRow_alloc run_stn3 run_stt15 Shp.rd_extk cell_ext

section
variable {P : Program} {ops : Array Oper} {Q : Exit → Act → World → Prop} {md : Region.Mode} {S : World → Prop}
theorem fork3 (i j k : Nat) {fuel : Nat} {listed : Array Bool} {a : Act} {w : World} (hr : Region.ready md ops listed = [i, j, k])
  (hwi : (ops[i]?).map (fun o => Region.wanted o (yielded ops a.tmps)) = some true) (hwj : (ops[j]?).map (fun o => Region.wanted o (yielded ops a.tmps)) = some true) (hwk : (ops[k]?).map (fun o => Region.wanted o (yielded ops a.tmps)) = some true)
  (hi : ∀ o, ops[i]? = some o → ∀ K : Act → World → Prop, Shut (∀ a w, S w → (S w → wpAnyH P md ops Q S fuel (listed.setIfInBounds i true) a w) → K a w) → Oper.wp P o a w K Q)
  (hj : ∀ o, ops[j]? = some o → ∀ K : Act → World → Prop, Shut (∀ a w, S w → (S w → wpAnyH P md ops Q S fuel (listed.setIfInBounds j true) a w) → K a w) → Oper.wp P o a w K Q)
  (hk : ∀ o, ops[k]? = some o → ∀ K : Act → World → Prop, Shut (∀ a w, S w → (S w → wpAnyH P md ops Q S fuel (listed.setIfInBounds k true) a w) → K a w) → Oper.wp P o a w K Q) : wpAnyH P md ops Q S (fuel + 1) listed a w := by
 cases ho : ops[i]? with
 | none => rw [ho] at hwi; cases hwi
 | some o =>
  cases hp : ops[j]? with
  | none => rw [hp] at hwj; cases hwj
  | some p =>
   cases hq : ops[k]? with
   | none => rw [hq] at hwk; cases hwk
   | some q =>
    rw [ho] at hwi
    rw [hp] at hwj
    rw [hq] at hwk
    simp only [Option.map_some, Option.some.injEq] at hwi hwj hwk
    refine wpAnyH_ready hr (by simp) (AllReadyH.cons ho (fun K hK => ?_) (AllReadyH.cons hp (fun K hK => ?_) (AllReadyH.cons hq (fun K hK => ?_) AllReadyH.nil)))
    ·rw [if_pos hwi]; exact hi o ho K hK
    ·rw [if_pos hwj]; exact hj p hp K hK
    ·rw [if_pos hwk]; exact hk q hq K hK
end

def D.less (l k : List Nat) : Bool := decide (D.cmp l k = -1)
def D.same (l k : List Nat) : Bool := !D.less l k && !D.less k l
end Go.Proofs.YtjlaffgbmcpldaaGreatDoor
namespace Go.Proofs.YtjlaffgbmcpldaaGreatDoor.M

def wd : Nat → (Nat → Bool) → Nat
 | 0, _ => 0
 | n + 1, f => (f 0).toNat + 2 * wd n (fun k => f (k + 1))

theorem testBit_cons (b : Bool) (x i : Nat) : (b.toNat + 2 * x).testBit i = if i = 0 then b else x.testBit (i - 1) := by
 cases i with
 | zero => cases b <;> simp [Nat.testBit_zero] <;> omega
 | succ j =>
  simp only [Nat.testBit_succ, Nat.add_one_ne_zero, if_false, Nat.add_sub_cancel]
  have : (b.toNat + 2 * x) / 2 = x := by cases b <;> simp <;> omega
  rw [this]

theorem testBit_wd (n : Nat) : ∀ (f : Nat → Bool) (i : Nat), (wd n f).testBit i = (decide (i < n) && f i) := by
 induction n with
 | zero => intro f i; simp [wd]
 | succ n ih =>
  intro f i
  rw [wd, testBit_cons]
  cases i with
  | zero => simp
  | succ j => simp [ih]

theorem wd_lt (n : Nat) : ∀ f : Nat → Bool, wd n f < 2 ^ n := by
 induction n with
 | zero => intro f; simp [wd]
 | succ n ih =>
  intro f
  have h := ih (fun k => f (k + 1))
  rw [wd, Nat.pow_succ]
  have : (f 0).toNat ≤ 1 := by cases f 0 <;> simp
  omega

theorem wd_lt64 (f : Nat → Bool) : wd 64 f < 18446744073709551616 := wd_lt 64 f

theorem testBit_big {x i : Nat} (h : x < 18446744073709551616) (hi : 64 ≤ i) : x.testBit i = false :=
 Nat.testBit_lt_two_pow (Nat.lt_of_lt_of_le h (Nat.pow_le_pow_right (by decide) hi : 2 ^ 64 ≤ 2 ^ i))

theorem wd_of {x : Nat} {f : Nat → Bool} (h : x < 18446744073709551616) (hf : ∀ i, i < 64 → x.testBit i = f i) : wd 64 f = x := by
 apply Nat.eq_of_testBit_eq
 intro i
 rw [testBit_wd]
 by_cases hi : i < 64
 ·simp [hi, hf i hi]
 ·have hb := testBit_big h (Nat.le_of_not_lt hi)
  simp [hi, hb]

def low (n : Int) : Nat := 2 ^ (min n.toNat 64) - 1
theorem testBit_low (n : Int) (i : Nat) : (low n).testBit i = (decide (i < 64) && decide ((i : Int) < n)) := by
 unfold low
 rw [Nat.testBit_two_pow_sub_one]
 have : (i < min n.toNat 64) ↔ (i < 64 ∧ (i : Int) < n) := by omega
 rw [Bool.eq_iff_iff]; simp [this]
theorem low_lt (n : Int) : low n < 18446744073709551616 := by
 unfold low
 have : 2 ^ (min n.toNat 64) ≤ 2 ^ 64 := Nat.pow_le_pow_right (by decide) (by omega)
 omega
def thereB (lo n : Int) : Bool := decide (0 ≤ lo ∧ 0 ≤ n ∧ n ≤ 64 ∧ lo ≤ 64 - n)
theorem there_iff {lo n : Int} : thereB lo n = true ↔ 0 ≤ lo ∧ 0 ≤ n ∧ n ≤ 64 ∧ lo ≤ 64 - n := by simp [thereB]
def getF (w : Nat) (lo n : Int) (i : Nat) : Bool := thereB lo n && decide ((i : Int) < n) && w.testBit (lo.toNat + i)
def get (w : Nat) (lo n : Int) : Nat := wd 64 (getF w lo n)
theorem get_lt (w : Nat) (lo n : Int) : get w lo n < 18446744073709551616 := wd_lt64 _
theorem testBit_get (w : Nat) (lo n : Int) (i : Nat) : (get w lo n).testBit i = (decide (i < 64) && (thereB lo n && decide ((i : Int) < n) && w.testBit (lo.toNat + i))) := by
 unfold get; rw [testBit_wd]; rfl
theorem get_none {w : Nat} {lo n : Int} (h : thereB lo n = false) : get w lo n = 0 :=
 wd_of (by decide) fun i _ => by simp [getF, h]
theorem get_some {w : Nat} {lo n : Int} (h : thereB lo n = true) : (w / 2 ^ lo.toNat) &&& low n = get w lo n := by
 apply Nat.eq_of_testBit_eq
 intro i
 have h' := there_iff.1 h
 rw [Nat.testBit_and, Nat.testBit_div_two_pow, testBit_low, testBit_get, h, Nat.add_comm i]
 by_cases hi : i < 64 <;> by_cases hn : (i : Int) < n <;> simp [hi, hn]

def putF (w : Nat) (lo n : Int) (v : Nat) (i : Nat) : Bool := if thereB lo n && decide (lo ≤ i) && decide ((i : Int) < lo + n) then v.testBit (i - lo.toNat) else w.testBit i
def put (w : Nat) (lo n : Int) (v : Nat) : Nat := wd 64 (putF w lo n v)
def swap (w : Nat) : Nat := wd 64 (fun i => w.testBit (56 - i / 8 * 8 + i % 8))
def sw (w : Nat) : Nat → Nat
 | 0 => 0
 | k + 1 => (sw w k * 2 ^ 8 % 18446744073709551616) ||| get w ((8 * k : Nat) : Int) 8
def cnt (f : Nat → Bool) : Nat → Nat
 | 0 => 0
 | n + 1 => cnt f n + (f n).toNat
theorem cnt_le (f : Nat → Bool) (n : Nat) : cnt f n ≤ n := by
 induction n with
 | zero => simp [cnt]
 | succ n ih => rw [cnt]; cases f n <;> simp <;> omega
def ones (w : Nat) (n : Nat) : Nat := cnt w.testBit n
def top (w : Nat) : Nat → Int
 | 0 => -1
 | n + 1 => if w.testBit n then (n : Int) else top w n
end Go.Proofs.YtjlaffgbmcpldaaGreatDoor.M
