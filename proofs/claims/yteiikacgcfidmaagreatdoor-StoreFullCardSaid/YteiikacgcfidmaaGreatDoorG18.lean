/-
  Fields as bytes, as lists of plain numbers: what is written of fields into some room, and what is read of any bytes. No program is spoken of.
  Records as plain numbers: what is wrong with one, its bytes, what is read of any bytes. No program is spoken of.
  Versions as plain data: what is wrong with one, what is seen at a time, what some pins need, what trimming leaves. No program is spoken of.
-/
import Derived.Test.YteiikacgcfidmaaGreatDoorG17
set_option linter.unusedVariables false
set_option maxRecDepth 100000
set_option linter.unusedSimpArgs false
namespace Go.Proofs.YteiikacgcfidmaaGreatDoor
namespace D

/-- The lowest k bytes of a number, the highest first. -/
def be (n : Nat) : Nat → List Nat
  | 0 => []
  | k + 1 => (n / 256 ^ k % 256) :: be n k
/-- A field: its kind, its number, its text. -/
structure Fd where
  k : Int
  n : Nat
  s : ByteArray
structure Fd.ok (f : Fd) : Prop where
  k0 : 0 ≤ f.k
  k4 : f.k ≤ 4
  n : f.n < 18446744073709551616
  s : f.s.size ≤ 200
def enc (f : Fd) : List Nat := if f.k = 0 then [f.n % 256] else if f.k = 1 then be (f.n % 65536) 2 else if f.k = 2 then be f.n 8 else if f.k = 3 then sm f.n else sm f.s.size ++ ns f.s
theorem Fd.ok.cases {f : Fd} (h : f.ok) : f.k = 0 ∨ f.k = 1 ∨ f.k = 2 ∨ f.k = 3 ∨ f.k = 4 := by have := h.k0; have := h.k4; omega
/-- What a writer holds: what was written, and the first error. -/
structure St where
  out : List Nat
  err : Nat
/-- A field is put: its bytes, or its error. -/
def wput (room : Nat) (s : St) (r : List Nat) (e : Nat) : St :=
  if s.err ≠ 0 then s else if e ≠ 0 then ⟨s.out, e⟩ else if room < s.out.length + r.length then ⟨s.out, 2⟩ else ⟨s.out ++ r, 0⟩
def writes (room : Nat) (s : St) (l : List Fd) : St := l.foldl (fun s f => wput room s (enc f) 0) s
/-- What is read of the bytes that are left: the number, the text, how many bytes, the error. -/
structure An where
  x : Nat
  s : List Nat
  k : Nat
  e : Nat
def fix (z : Nat) (r : List Nat) : An := if r.length < z then ⟨0, [], 0, 4⟩ else ⟨val (r.take z), [], z, 0⟩
def numh (m : Nat) (r : List Nat) : An := if (readS r).2.2 ≠ 0 then ⟨0, [], 0, (readS r).2.2⟩ else if m < (readS r).1 then ⟨0, [], 0, 5⟩ else ⟨(readS r).1, [], (readS r).2.1, 0⟩
def txth (m : Nat) (r : List Nat) : An := if (readS r).2.2 ≠ 0 then ⟨0, [], 0, (readS r).2.2⟩ else if m < (readS r).1 then ⟨0, [], 0, 2⟩ else if r.length - (readS r).2.1 < (readS r).1 then ⟨0, [], 0, 4⟩ else ⟨0, (r.drop (readS r).2.1).take (readS r).1, (readS r).2.1 + (readS r).1, 0⟩
def rd (k : Int) (m : Nat) (r : List Nat) : An := if k = 0 then fix 1 r else if k = 1 then fix 2 r else if k = 2 then fix 8 r else if k = 3 then numh m r else txth m r
/-- What a field is read as, where it was written. -/
def most (f : Fd) : Nat := if f.k = 4 then f.s.size else f.n
end D
end Go.Proofs.YteiikacgcfidmaaGreatDoor
set_option linter.unusedVariables false
set_option maxRecDepth 100000
set_option linter.unusedSimpArgs false
namespace Go.Proofs.YteiikacgcfidmaaGreatDoor
namespace D

/-- A record: its kind, state, user, parent, mask, whether it is gone, its revision, its time, its text. -/
structure Rc where
  k : Nat
  s : Nat
  u : Nat
  p : Nat
  m : Nat
  g : Bool
  v : Nat
  a : Nat
  t : ByteArray
deriving DecidableEq
structure Rc.wf (r : Rc) : Prop where
  k : r.k < 256
  s : r.s < 256
  u : r.u < 256
  p : r.p < 256
  m : r.m < 256
  v : r.v < 4294967296
  a : r.a < 18446744073709551616
def zRc : Rc := ⟨0, 0, 0, 0, 0, false, 0, 0, ⟨#[]⟩⟩
def bare (k : Nat) : Rc := ⟨k, 0, 0, 0, 0, false, 0, 0, ⟨#[]⟩⟩
/-- A record without the fields that its kind uses. -/
def rinse (r : Rc) : Rc :=
  match r with
  | ⟨1, s, _, p, m, g, v, a, t⟩ => ⟨1, s, 0, p, m, g, v, a, t⟩
  | ⟨2, s, u, p, _, g, v, a, t⟩ => ⟨2, s, u, p, 0, g, v, a, t⟩
  | ⟨4, _, u, _, m, g, v, _, t⟩ => ⟨4, 0, u, 0, m, g, v, 0, t⟩
  | ⟨5, s, u, p, m, _, _, a, _⟩ => ⟨5, s, u, p, m, false, 0, a, ⟨#[]⟩⟩
  | ⟨6, _, _, p, m, g, _, a, _⟩ => ⟨6, 0, 0, p, m, g, 0, a, ⟨#[]⟩⟩
  | r => r
/-- The first of two errors. -/
def fst2 (a b : Nat) : Nat := if a = 0 then b else a
def inn (x lo hi : Nat) : Nat := if lo ≤ x ∧ x ≤ hi then 0 else 5
def lng (t : ByteArray) : Nat := if t.size ≤ 60 then 0 else 2
/-- The first error of the bounds of the fields that a record's kind uses. -/
def amiss (r : Rc) : Nat :=
  match r.k with
  | 1 => inn r.u 0 15
  | 2 => inn r.m 1 63
  | 4 => fst2 (inn r.p 0 3) (inn r.s 0 1)
  | 5 => fst2 (inn r.v 1 4294967295) (lng r.t)
  | 6 => fst2 (fst2 (fst2 (inn r.s 1 5) (inn r.u 0 15)) (inn r.v 1 4294967295)) (lng r.t)
  | _ => 0
/-- What is wrong with a record. -/
def chk (r : Rc) : Nat :=
  if r.k = 0 ∨ 6 < r.k then 16
  else if rinse r ≠ bare r.k then 3
  else if amiss r ≠ 0 then amiss r
  else if r.g = true ∧ r.t.size ≠ 0 then 3
  else 0
theorem size0 {t : ByteArray} (h : t.size = 0) : t = ⟨#[]⟩ := by
  cases t with
  | mk d =>
    congr
    exact Array.eq_empty_of_size_eq_zero h
end D
end Go.Proofs.YteiikacgcfidmaaGreatDoor
set_option linter.unusedVariables false
set_option linter.unusedSimpArgs false
namespace Go.Proofs.YteiikacgcfidmaaGreatDoor
namespace D

/-- A version: its time, whether it is dead, its record. -/
structure Vn where
  a : Nat
  d : Bool
  r : Rc
deriving DecidableEq
structure Vn.wf (v : Vn) : Prop where
  a : v.a < 18446744073709551616
  r : v.r.wf
def dd (a : Nat) : Vn := ⟨a, true, zRc⟩
def zVn : Vn := ⟨0, false, zRc⟩
/-- The error of a version by itself. -/
def wgh (v : Vn) : Nat := if v.d = true then (if v.r = zRc then 0 else 3) else chk v.r
/-- The newest one's time. -/
def nwt (l : List Vn) : Nat := match l.getLast? with
  | none => 0
  | some v => v.a
/-- The error of one more. -/
def per (l : List Vn) (v : Vn) : Nat := if wgh v ≠ 0 then wgh v else if v.a ≤ nwt l then 21 else 0
/-- Some more, up to the first error: what there is then, how many, the error. -/
def puts : List Vn → List Vn → List Vn × Nat × Nat
  | l, [] => (l, 0, 0)
  | l, v :: vs => if per l v ≠ 0 then (l, 0, per l v) else let (x, n, e) := puts (l ++ [v]) vs; (x, n + 1, e)
/-- A chain. -/
structure Srt (l : List Vn) : Prop where
  up : l.Pairwise (fun u v => u.a < v.a)
  one : ∀ v ∈ l, 1 ≤ v.a
  ok : ∀ v ∈ l, wgh v = 0
theorem Srt.nil : Srt [] := ⟨List.Pairwise.nil, by simp, by simp⟩
theorem nwt_at {l : List Vn} {v : Vn} (h : l[l.length - 1]? = some v) : nwt l = v.a := by
  rw [nwt, List.getLast?_eq_getElem?, h]
theorem nwt_ge {l : List Vn} (h : Srt l) : ∀ v ∈ l, v.a ≤ nwt l := by
  intro v hv
  obtain ⟨i, hi, rfl⟩ := List.mem_iff_getElem.1 hv
  have h1 : l[l.length - 1]? = some (l[l.length - 1]'(by omega)) := List.getElem?_eq_getElem _
  rw [nwt_at h1]
  by_cases e : i = l.length - 1
  · subst e; exact Nat.le_refl _
  · exact Nat.le_of_lt (List.pairwise_iff_getElem.1 h.up i (l.length - 1) hi (by omega) (by omega))
theorem per_0 {l : List Vn} {v : Vn} (h : per l v = 0) : wgh v = 0 ∧ nwt l < v.a := by
  unfold per at h
  split at h
  · rename_i h1; exact absurd h h1
  · rename_i h1
    split at h
    · cases h
    · exact ⟨by simpa using h1, by omega⟩
theorem Srt.snoc {l : List Vn} {v : Vn} (h : Srt l) (hp : per l v = 0) : Srt (l ++ [v]) := by
  obtain ⟨h1, h2⟩ := per_0 hp
  refine ⟨List.pairwise_append.2 ⟨h.up, List.pairwise_singleton _ _, fun a ha b hb => ?_⟩, fun u hu => ?_, fun u hu => ?_⟩
  · simp at hb; subst hb
    have := nwt_ge h a ha
    omega
  · rcases List.mem_append.1 hu with hu | hu
    · exact h.one u hu
    · simp at hu; subst hu; omega
  · rcases List.mem_append.1 hu with hu | hu
    · exact h.ok u hu
    · simp at hu; subst hu; exact h1
theorem puts_cons_ok {l vs : List Vn} {v : Vn} (h : per l v = 0) : puts l (v :: vs) = ((puts (l ++ [v]) vs).1, (puts (l ++ [v]) vs).2.1 + 1, (puts (l ++ [v]) vs).2.2) := by
  rw [puts, if_neg (by simp [h])]
theorem puts_cons_bad {l vs : List Vn} {v : Vn} (h : per l v ≠ 0) : puts l (v :: vs) = (l, 0, per l v) := by
  rw [puts, if_pos h]
/-- How many are up to a time. -/
def cnt (l : List Vn) (t : Nat) : Nat := l.countP (fun v => decide (v.a ≤ t))
theorem cnt_le (l : List Vn) (t : Nat) : cnt l t ≤ l.length := List.countP_le_length
theorem cnt_is {l : List Vn} {t i : Nat} (hi : i ≤ l.length) (h1 : ∀ k v, l[k]? = some v → k < i → v.a ≤ t) (h2 : ∀ k v, l[k]? = some v → i ≤ k → t < v.a) : cnt l t = i := by
  rw [cnt, ← List.take_append_drop i l, List.countP_append]
  have e1 : (l.take i).countP (fun v => decide (v.a ≤ t)) = (l.take i).length := by
    rw [List.countP_eq_length]
    intro v hv
    obtain ⟨k, hk, rfl⟩ := List.mem_iff_getElem.1 hv
    have hk2 : k < i := by simp at hk; omega
    have := h1 k _ (List.getElem?_eq_getElem (by simp at hk; omega)) hk2
    simpa using this
  have e2 : (l.drop i).countP (fun v => decide (v.a ≤ t)) = 0 := by
    rw [List.countP_eq_zero]
    intro v hv
    obtain ⟨k, hk, rfl⟩ := List.mem_iff_getElem.1 hv
    have := h2 (i + k) _ (List.getElem?_eq_getElem (by simp at hk; omega)) (by omega)
    simp
    omega
  rw [e1, e2, List.length_take]
  omega
theorem Srt.lt {l : List Vn} (h : Srt l) {i j : Nat} {u v : Vn} (hu : l[i]? = some u) (hv : l[j]? = some v) (hij : i < j) : u.a < v.a := by
  obtain ⟨h1, rfl⟩ := List.getElem?_eq_some_iff.1 hu
  obtain ⟨h2, rfl⟩ := List.getElem?_eq_some_iff.1 hv
  exact List.pairwise_iff_getElem.1 h.up i j h1 h2 hij
/-- What is seen at a time. -/
def seen (l : List Vn) (t : Nat) : Vn := if cnt l t = 0 then dd 0 else (l[cnt l t - 1]?).getD (dd 0)
theorem seen_0 {l : List Vn} {t : Nat} (h : cnt l t = 0) : seen l t = dd 0 := if_pos h
theorem seen_s {l : List Vn} {t : Nat} {v : Vn} (h : cnt l t ≠ 0) (hv : l[cnt l t - 1]? = some v) : seen l t = v := by
  rw [seen, if_neg h, hv]; rfl
theorem seen_mem {l : List Vn} {t : Nat} (h : cnt l t ≠ 0) : ∃ v, l[cnt l t - 1]? = some v ∧ seen l t = v ∧ v ∈ l := by
  have := cnt_le l t
  have hx : l[cnt l t - 1]? = some (l[cnt l t - 1]'(by omega)) := List.getElem?_eq_getElem _
  exact ⟨_, hx, seen_s h hx, List.getElem_mem _⟩
/-- At the greatest time the newest one is seen. -/
theorem cnt_all {l : List Vn} {t : Nat} (h : ∀ v ∈ l, v.a ≤ t) : cnt l t = l.length := by
  rw [cnt, List.countP_eq_length]
  intro v hv
  simpa using h v hv
theorem seen_late {l : List Vn} (h : Srt l) {t : Nat} (ht : nwt l ≤ t) : seen l t = (l.getLast?).getD (dd 0) := by
  have hc : cnt l t = l.length := cnt_all fun v hv => Nat.le_trans (nwt_ge h v hv) ht
  by_cases h0 : l.length = 0
  · have : l = [] := List.eq_nil_of_length_eq_zero h0
    subst this; rfl
  · rw [seen, if_neg (by omega), hc, List.getLast?_eq_getElem?]
theorem nwt_seen {l : List Vn} (h : Srt l) {t : Nat} (ht : nwt l ≤ t) : (seen l t).a = nwt l := by
  rw [seen_late h ht, nwt]
  cases l.getLast? <;> rfl
/-- Is a pin at a time or later, and below another one? -/
def pin (ps : List Nat) (lo hi : Nat) : Bool := ps.any fun p => decide (lo ≤ p) && decide (p < hi)
/-- Those that are needed. -/
def ned (ps : List Nat) : List Vn → List Vn
  | [] => []
  | [v] => [v]
  | v :: w :: l => if pin ps v.a w.a = true then v :: ned ps (w :: l) else ned ps (w :: l)
theorem Srt.sub {l k : List Vn} (h : Srt l) (hs : k.Sublist l) : Srt k := ⟨h.up.sublist hs, fun v hv => h.one v (hs.subset hv), fun v hv => h.ok v (hs.subset hv)⟩
end D
end Go.Proofs.YteiikacgcfidmaaGreatDoor
