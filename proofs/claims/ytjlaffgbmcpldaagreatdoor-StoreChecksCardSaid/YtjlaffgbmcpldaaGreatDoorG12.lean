/-
  
-/
import Derived.Test.YtjlaffgbmcpldaaGreatDoorG11
set_option linter.unusedVariables false
set_option maxRecDepth 100000
set_option linter.unusedSimpArgs false
namespace Go.Proofs.YtjlaffgbmcpldaaGreatDoor
namespace D

def val (l : List Nat) : Nat := l.foldl (fun a b => a * 256 + b) 0
def sm (n : Nat) : List Nat := if _h : n ≤ 127 then [n] else (n % 128 + 128) :: sm (n / 128)
termination_by n
decreasing_by omega
def rs : List Nat → Nat → Nat → Nat × Nat × Nat
 | [], _, _ => (0, 0, 4)
 | b :: t, i, a => if i = 9 ∧ 1 < b ∨ 0 < i ∧ b = 0 then (0, 0, 3) else if b < 128 then (a + b % 128 * 128 ^ i, i + 1, 0) else rs t (i + 1) (a + b % 128 * 128 ^ i)
def readS (l : List Nat) : Nat × Nat × Nat := rs l 0 0
end D
end Go.Proofs.YtjlaffgbmcpldaaGreatDoor
set_option linter.unusedVariables false
set_option maxRecDepth 100000
set_option linter.unusedSimpArgs false
namespace Go.Proofs.YtjlaffgbmcpldaaGreatDoor
namespace D

def be (n : Nat) : Nat → List Nat
 | 0 => []
 | k + 1 => (n / 256 ^ k % 256) :: be n k
structure Fd where
 k : Int
 n : Nat
 s : ByteArray
structure Fd.ok (f : Fd) : Prop where
 k0 : 0 ≤ f.k
 k4 : f.k ≤ 4
 n : f.n < 18446744073709551616
 s : f.s.size ≤ 200
def enc (f : Fd) : List Nat := if f.k = 0 then [f.n % 256] else if f.k = 1 then be (f.n % 65536) 2 else if f.k = 2 then be f.n 8 else if f.k = 3 then sm f.n else sm f.s.size ++ ns f.s
theorem Fd.ok.cases {f : Fd} (h : f.ok) : f.k = 0 ∨ f.k = 1 ∨ f.k = 2 ∨ f.k = 3 ∨ f.k = 4 := by have := h.k0; have := h.k4; omega
structure St where
 out : List Nat
 err : Nat
def wput (room : Nat) (s : St) (r : List Nat) (e : Nat) : St :=
 if s.err ≠ 0 then s else if e ≠ 0 then ⟨s.out, e⟩ else if room < s.out.length + r.length then ⟨s.out, 2⟩ else ⟨s.out ++ r, 0⟩
def writes (room : Nat) (s : St) (l : List Fd) : St := l.foldl (fun s f => wput room s (enc f) 0) s
structure An where
 x : Nat
 s : List Nat
 k : Nat
 e : Nat
def fix (z : Nat) (r : List Nat) : An := if r.length < z then ⟨0, [], 0, 4⟩ else ⟨val (r.take z), [], z, 0⟩
def numh (m : Nat) (r : List Nat) : An := if (readS r).2.2 ≠ 0 then ⟨0, [], 0, (readS r).2.2⟩ else if m < (readS r).1 then ⟨0, [], 0, 5⟩ else ⟨(readS r).1, [], (readS r).2.1, 0⟩
def txth (m : Nat) (r : List Nat) : An := if (readS r).2.2 ≠ 0 then ⟨0, [], 0, (readS r).2.2⟩ else if m < (readS r).1 then ⟨0, [], 0, 2⟩ else if r.length - (readS r).2.1 < (readS r).1 then ⟨0, [], 0, 4⟩ else ⟨0, (r.drop (readS r).2.1).take (readS r).1, (readS r).2.1 + (readS r).1, 0⟩
def rd (k : Int) (m : Nat) (r : List Nat) : An := if k = 0 then fix 1 r else if k = 1 then fix 2 r else if k = 2 then fix 8 r else if k = 3 then numh m r else txth m r
structure An.fine (a : An) (n : Nat) : Prop where
 bad : a.e ≠ 0 → a.x = 0 ∧ a.s = [] ∧ a.k = 0
 le : a.k ≤ n
 x : a.x < 18446744073709551616
 e : a.e ≤ 5
def most (f : Fd) : Nat := if f.k = 4 then f.s.size else f.n
end D
end Go.Proofs.YtjlaffgbmcpldaaGreatDoor
set_option linter.unusedVariables false
set_option maxRecDepth 100000
set_option linter.unusedSimpArgs false
namespace Go.Proofs.YtjlaffgbmcpldaaGreatDoor
namespace D

structure Rc where
 k : Nat
 s : Nat
 u : Nat
 p : Nat
 m : Nat
 g : Bool
 v : Nat
 a : Nat
 t : ByteArray
deriving DecidableEq
structure Rc.wf (r : Rc) : Prop where
 k : r.k < 256
 s : r.s < 256
 u : r.u < 256
 p : r.p < 256
 m : r.m < 256
 v : r.v < 4294967296
 a : r.a < 18446744073709551616
def zRc : Rc := ⟨0, 0, 0, 0, 0, false, 0, 0, ⟨#[]⟩⟩
def bare (k : Nat) : Rc := ⟨k, 0, 0, 0, 0, false, 0, 0, ⟨#[]⟩⟩
def rinse (r : Rc) : Rc :=
 match r with
 | ⟨1, s, _, p, m, g, v, a, t⟩ => ⟨1, s, 0, p, m, g, v, a, t⟩
 | ⟨2, s, u, p, _, g, v, a, t⟩ => ⟨2, s, u, p, 0, g, v, a, t⟩
 | ⟨4, _, u, _, m, g, v, _, t⟩ => ⟨4, 0, u, 0, m, g, v, 0, t⟩
 | ⟨5, s, u, p, m, _, _, a, _⟩ => ⟨5, s, u, p, m, false, 0, a, ⟨#[]⟩⟩
 | ⟨6, _, _, p, m, g, _, a, _⟩ => ⟨6, 0, 0, p, m, g, 0, a, ⟨#[]⟩⟩
 | r => r
def fst2 (a b : Nat) : Nat := if a = 0 then b else a
def inn (x lo hi : Nat) : Nat := if lo ≤ x ∧ x ≤ hi then 0 else 5
def lng (t : ByteArray) : Nat := if t.size ≤ 60 then 0 else 2
def amiss (r : Rc) : Nat :=
 match r.k with
 | 1 => inn r.u 0 15
 | 2 => inn r.m 1 63
 | 4 => fst2 (inn r.p 0 3) (inn r.s 0 1)
 | 5 => fst2 (inn r.v 1 4294967295) (lng r.t)
 | 6 => fst2 (fst2 (fst2 (inn r.s 1 5) (inn r.u 0 15)) (inn r.v 1 4294967295)) (lng r.t)
 | _ => 0
def chk (r : Rc) : Nat :=
 if r.k = 0 ∨ 6 < r.k then 16
 else if rinse r ≠ bare r.k then 3
 else if amiss r ≠ 0 then amiss r
 else if r.g = true ∧ r.t.size ≠ 0 then 3
 else 0
theorem size0 {t : ByteArray} (h : t.size = 0) : t = ⟨#[]⟩ := by
 cases t with
 | mk d =>
  congr
  exact Array.eq_empty_of_size_eq_zero h
structure Rz where
 n : Nat
 e : Nat
def zn (l : List Nat) (z : Rz) (k : Int) (m : Nat) : Rz := if z.e = 0 then ⟨z.n + (rd k m (l.drop z.n)).k, (rd k m (l.drop z.n)).e⟩ else z
def zx (l : List Nat) (z : Rz) (k : Int) (m : Nat) : Nat := if z.e = 0 then (rd k m (l.drop z.n)).x else 0
def zs (l : List Nat) (z : Rz) (k : Int) (m : Nat) : List Nat := if z.e = 0 then (rd k m (l.drop z.n)).s else []
def mxR : Nat := 4294967295
def mxA : Nat := 18446744073709551615
structure Rf where
 r : Rc
 z : Rz
 odd : Bool
end D
end Go.Proofs.YtjlaffgbmcpldaaGreatDoor
