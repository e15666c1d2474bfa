/-
  
-/
import Derived.Test.YtjlaffgbmcpldaaGreatDoorG10
namespace Go.Proofs.YtjlaffgbmcpldaaGreatDoor.M

def wd : Nat → (Nat → Bool) → Nat
 | 0, _ => 0
 | n + 1, f => (f 0).toNat + 2 * wd n (fun k => f (k + 1))

theorem testBit_cons (b : Bool) (x i : Nat) : (b.toNat + 2 * x).testBit i = if i = 0 then b else x.testBit (i - 1) := by
 cases i with
 | zero => cases b <;> simp [Nat.testBit_zero] <;> omega
 | succ j =>
  simp only [Nat.testBit_succ, Nat.add_one_ne_zero, if_false, Nat.add_sub_cancel]
  have : (b.toNat + 2 * x) / 2 = x := by cases b <;> simp <;> omega
  rw [this]

theorem testBit_wd (n : Nat) : ∀ (f : Nat → Bool) (i : Nat), (wd n f).testBit i = (decide (i < n) && f i) := by
 induction n with
 | zero => intro f i; simp [wd]
 | succ n ih =>
  intro f i
  rw [wd, testBit_cons]
  cases i with
  | zero => simp
  | succ j => simp [ih]

theorem wd_lt (n : Nat) : ∀ f : Nat → Bool, wd n f < 2 ^ n := by
 induction n with
 | zero => intro f; simp [wd]
 | succ n ih =>
  intro f
  have h := ih (fun k => f (k + 1))
  rw [wd, Nat.pow_succ]
  have : (f 0).toNat ≤ 1 := by cases f 0 <;> simp
  omega

theorem wd_lt64 (f : Nat → Bool) : wd 64 f < 18446744073709551616 := wd_lt 64 f

theorem testBit_big {x i : Nat} (h : x < 18446744073709551616) (hi : 64 ≤ i) : x.testBit i = false :=
 Nat.testBit_lt_two_pow (Nat.lt_of_lt_of_le h (Nat.pow_le_pow_right (by decide) hi : 2 ^ 64 ≤ 2 ^ i))

theorem wd_of {x : Nat} {f : Nat → Bool} (h : x < 18446744073709551616) (hf : ∀ i, i < 64 → x.testBit i = f i) : wd 64 f = x := by
 apply Nat.eq_of_testBit_eq
 intro i
 rw [testBit_wd]
 by_cases hi : i < 64
 ·simp [hi, hf i hi]
 ·have hb := testBit_big h (Nat.le_of_not_lt hi)
  simp [hi, hb]

def low (n : Int) : Nat := 2 ^ (min n.toNat 64) - 1
theorem testBit_low (n : Int) (i : Nat) : (low n).testBit i = (decide (i < 64) && decide ((i : Int) < n)) := by
 unfold low
 rw [Nat.testBit_two_pow_sub_one]
 have : (i < min n.toNat 64) ↔ (i < 64 ∧ (i : Int) < n) := by omega
 rw [Bool.eq_iff_iff]; simp [this]
def thereB (lo n : Int) : Bool := decide (0 ≤ lo ∧ 0 ≤ n ∧ n ≤ 64 ∧ lo ≤ 64 - n)
theorem there_iff {lo n : Int} : thereB lo n = true ↔ 0 ≤ lo ∧ 0 ≤ n ∧ n ≤ 64 ∧ lo ≤ 64 - n := by simp [thereB]
def getF (w : Nat) (lo n : Int) (i : Nat) : Bool := thereB lo n && decide ((i : Int) < n) && w.testBit (lo.toNat + i)
def get (w : Nat) (lo n : Int) : Nat := wd 64 (getF w lo n)
theorem get_lt (w : Nat) (lo n : Int) : get w lo n < 18446744073709551616 := wd_lt64 _
theorem testBit_get (w : Nat) (lo n : Int) (i : Nat) : (get w lo n).testBit i = (decide (i < 64) && (thereB lo n && decide ((i : Int) < n) && w.testBit (lo.toNat + i))) := by
 unfold get; rw [testBit_wd]; rfl
theorem get_none {w : Nat} {lo n : Int} (h : thereB lo n = false) : get w lo n = 0 :=
 wd_of (by decide) fun i _ => by simp [getF, h]
theorem get_some {w : Nat} {lo n : Int} (h : thereB lo n = true) : (w / 2 ^ lo.toNat) &&& low n = get w lo n := by
 apply Nat.eq_of_testBit_eq
 intro i
 have h' := there_iff.1 h
 rw [Nat.testBit_and, Nat.testBit_div_two_pow, testBit_low, testBit_get, h, Nat.add_comm i]
 by_cases hi : i < 64 <;> by_cases hn : (i : Int) < n <;> simp [hi, hn]

def putF (w : Nat) (lo n : Int) (v : Nat) (i : Nat) : Bool := if thereB lo n && decide (lo ≤ i) && decide ((i : Int) < lo + n) then v.testBit (i - lo.toNat) else w.testBit i
def put (w : Nat) (lo n : Int) (v : Nat) : Nat := wd 64 (putF w lo n v)
def turn (w k : Nat) : Nat := wd 64 (fun i => w.testBit ((i + 64 - k) % 64))
def swap (w : Nat) : Nat := wd 64 (fun i => w.testBit (56 - i / 8 * 8 + i % 8))
def sw (w : Nat) : Nat → Nat
 | 0 => 0
 | k + 1 => (sw w k * 2 ^ 8 % 18446744073709551616) ||| get w ((8 * k : Nat) : Int) 8
def cnt (f : Nat → Bool) : Nat → Nat
 | 0 => 0
 | n + 1 => cnt f n + (f n).toNat
theorem cnt_le (f : Nat → Bool) (n : Nat) : cnt f n ≤ n := by
 induction n with
 | zero => simp [cnt]
 | succ n ih => rw [cnt]; cases f n <;> simp <;> omega
def ones (w : Nat) (n : Nat) : Nat := cnt w.testBit n
def top (w : Nat) : Nat → Int
 | 0 => -1
 | n + 1 => if w.testBit n then (n : Int) else top w n
end Go.Proofs.YtjlaffgbmcpldaaGreatDoor.M
set_option linter.unusedVariables false
set_option maxRecDepth 100000
set_option linter.unusedSimpArgs false
namespace Go.Proofs.YtjlaffgbmcpldaaGreatDoor
namespace D

def val (l : List Nat) : Nat := l.foldl (fun a b => a * 256 + b) 0
def sm (n : Nat) : List Nat := if _h : n ≤ 127 then [n] else (n % 128 + 128) :: sm (n / 128)
termination_by n
decreasing_by omega
def rs : List Nat → Nat → Nat → Nat × Nat × Nat
 | [], _, _ => (0, 0, 4)
 | b :: t, i, a => if i = 9 ∧ 1 < b ∨ 0 < i ∧ b = 0 then (0, 0, 3) else if b < 128 then (a + b % 128 * 128 ^ i, i + 1, 0) else rs t (i + 1) (a + b % 128 * 128 ^ i)
def readS (l : List Nat) : Nat × Nat × Nat := rs l 0 0
def cmph : List Nat → List Nat → Int
 | [], [] => 0
 | [], _ :: _ => -1
 | _ :: _, [] => 1
 | x :: a, y :: b => if x = y then cmph a b else if x < y then -1 else 1
def lessh (a b : List Nat) : Bool := decide (cmph a b = -1)
def sameh (a b : List Nat) : Bool := !lessh a b && !lessh b a
end D
end Go.Proofs.YtjlaffgbmcpldaaGreatDoor
namespace Go.Proofs.YtjlaffgbmcpldaaGreatDoor
namespace D

def be (n : Nat) : Nat → List Nat
 | 0 => []
 | k + 1 => (n / 256 ^ k % 256) :: be n k
structure Fd where
 k : Int
 n : Nat
 s : ByteArray
structure Fd.ok (f : Fd) : Prop where
 k0 : 0 ≤ f.k
 k4 : f.k ≤ 4
 n : f.n < 18446744073709551616
 s : f.s.size ≤ 200
def enc (f : Fd) : List Nat := if f.k = 0 then [f.n % 256] else if f.k = 1 then be (f.n % 65536) 2 else if f.k = 2 then be f.n 8 else if f.k = 3 then sm f.n else sm f.s.size ++ ns f.s
theorem Fd.ok.cases {f : Fd} (h : f.ok) : f.k = 0 ∨ f.k = 1 ∨ f.k = 2 ∨ f.k = 3 ∨ f.k = 4 := by have := h.k0; have := h.k4; omega
structure St where
 out : List Nat
 err : Nat
def wput (room : Nat) (s : St) (r : List Nat) (e : Nat) : St :=
 if s.err ≠ 0 then s else if e ≠ 0 then ⟨s.out, e⟩ else if room < s.out.length + r.length then ⟨s.out, 2⟩ else ⟨s.out ++ r, 0⟩
def writes (room : Nat) (s : St) (l : List Fd) : St := l.foldl (fun s f => wput room s (enc f) 0) s
structure An where
 x : Nat
 s : List Nat
 k : Nat
 e : Nat
def fix (z : Nat) (r : List Nat) : An := if r.length < z then ⟨0, [], 0, 4⟩ else ⟨val (r.take z), [], z, 0⟩
def numh (m : Nat) (r : List Nat) : An := if (readS r).2.2 ≠ 0 then ⟨0, [], 0, (readS r).2.2⟩ else if m < (readS r).1 then ⟨0, [], 0, 5⟩ else ⟨(readS r).1, [], (readS r).2.1, 0⟩
def txth (m : Nat) (r : List Nat) : An := if (readS r).2.2 ≠ 0 then ⟨0, [], 0, (readS r).2.2⟩ else if m < (readS r).1 then ⟨0, [], 0, 2⟩ else if r.length - (readS r).2.1 < (readS r).1 then ⟨0, [], 0, 4⟩ else ⟨0, (r.drop (readS r).2.1).take (readS r).1, (readS r).2.1 + (readS r).1, 0⟩
def rd (k : Int) (m : Nat) (r : List Nat) : An := if k = 0 then fix 1 r else if k = 1 then fix 2 r else if k = 2 then fix 8 r else if k = 3 then numh m r else txth m r
def most (f : Fd) : Nat := if f.k = 4 then f.s.size else f.n
end D
end Go.Proofs.YtjlaffgbmcpldaaGreatDoor
namespace Go.Proofs.YtjlaffgbmcpldaaGreatDoor
namespace D

structure Rc where
 k : Nat
 s : Nat
 u : Nat
 p : Nat
 m : Nat
 g : Bool
 v : Nat
 a : Nat
 t : ByteArray
deriving DecidableEq
structure Rc.wf (r : Rc) : Prop where
 k : r.k < 256
 s : r.s < 256
 u : r.u < 256
 p : r.p < 256
 m : r.m < 256
 v : r.v < 4294967296
 a : r.a < 18446744073709551616
def zRc : Rc := ⟨0, 0, 0, 0, 0, false, 0, 0, ⟨#[]⟩⟩
def bare (k : Nat) : Rc := ⟨k, 0, 0, 0, 0, false, 0, 0, ⟨#[]⟩⟩
def rinse (r : Rc) : Rc :=
 match r with
 | ⟨1, s, _, p, m, g, v, a, t⟩ => ⟨1, s, 0, p, m, g, v, a, t⟩
 | ⟨2, s, u, p, _, g, v, a, t⟩ => ⟨2, s, u, p, 0, g, v, a, t⟩
 | ⟨4, _, u, _, m, g, v, _, t⟩ => ⟨4, 0, u, 0, m, g, v, 0, t⟩
 | ⟨5, s, u, p, m, _, _, a, _⟩ => ⟨5, s, u, p, m, false, 0, a, ⟨#[]⟩⟩
 | ⟨6, _, _, p, m, g, _, a, _⟩ => ⟨6, 0, 0, p, m, g, 0, a, ⟨#[]⟩⟩
 | r => r
def fst2 (a b : Nat) : Nat := if a = 0 then b else a
def inn (x lo hi : Nat) : Nat := if lo ≤ x ∧ x ≤ hi then 0 else 5
def lng (t : ByteArray) : Nat := if t.size ≤ 60 then 0 else 2
def amiss (r : Rc) : Nat :=
 match r.k with
 | 1 => inn r.u 0 15
 | 2 => inn r.m 1 63
 | 4 => fst2 (inn r.p 0 3) (inn r.s 0 1)
 | 5 => fst2 (inn r.v 1 4294967295) (lng r.t)
 | 6 => fst2 (fst2 (fst2 (inn r.s 1 5) (inn r.u 0 15)) (inn r.v 1 4294967295)) (lng r.t)
 | _ => 0
def chk (r : Rc) : Nat :=
 if r.k = 0 ∨ 6 < r.k then 16
 else if rinse r ≠ bare r.k then 3
 else if amiss r ≠ 0 then amiss r
 else if r.g = true ∧ r.t.size ≠ 0 then 3
 else 0
theorem size0 {t : ByteArray} (h : t.size = 0) : t = ⟨#[]⟩ := by
 cases t with
 | mk d =>
  congr
  exact Array.eq_empty_of_size_eq_zero h
structure Rz where
 n : Nat
 e : Nat
def zs (l : List Nat) (z : Rz) (k : Int) (m : Nat) : List Nat := if z.e = 0 then (rd k m (l.drop z.n)).s else []
end D
end Go.Proofs.YtjlaffgbmcpldaaGreatDoor
