/-
  
-/
import Derived.Test.YtjlaffgbmcpldaaGreatDoorG11
import Derived.Test.YtjlaffgbmcpldaaGreatDoorG07
import Derived.Test.YtjlaffgbmcpldaaGreatDoorG10
import Derived.Lib.BitFns
set_option linter.unusedVariables false
set_option linter.unusedSimpArgs false
namespace Go.Proofs.YtjlaffgbmcpldaaGreatDoor
namespace D

structure Vn where
 a : Nat
 d : Bool
 r : Rc
deriving DecidableEq
structure Vn.wf (v : Vn) : Prop where
 a : v.a < 18446744073709551616
 r : v.r.wf
def dd (a : Nat) : Vn := ⟨a, true, zRc⟩
def zVn : Vn := ⟨0, false, zRc⟩
def wgh (v : Vn) : Nat := if v.d = true then (if v.r = zRc then 0 else 3) else chk v.r
def nwt (l : List Vn) : Nat := match l.getLast? with
 | none => 0
 | some v => v.a
def per (l : List Vn) (v : Vn) : Nat := if wgh v ≠ 0 then wgh v else if v.a ≤ nwt l then 21 else 0
def puts : List Vn → List Vn → List Vn × Nat × Nat
 | l, [] => (l, 0, 0)
 | l, v :: vs => if per l v ≠ 0 then (l, 0, per l v) else let (x, n, e) := puts (l ++ [v]) vs; (x, n + 1, e)
structure Srt (l : List Vn) : Prop where
 up : l.Pairwise (fun u v => u.a < v.a)
 one : ∀ v ∈ l, 1 ≤ v.a
 ok : ∀ v ∈ l, wgh v = 0
theorem Srt.nil : Srt [] := ⟨List.Pairwise.nil, by simp, by simp⟩
theorem nwt_nil : nwt [] = 0 := rfl
theorem nwt_at {l : List Vn} {v : Vn} (h : l[l.length - 1]? = some v) : nwt l = v.a := by
 rw [nwt, List.getLast?_eq_getElem?, h]
theorem nwt_ge {l : List Vn} (h : Srt l) : ∀ v ∈ l, v.a ≤ nwt l := by
 intro v hv
 obtain ⟨i, hi, rfl⟩ := List.mem_iff_getElem.1 hv
 have h1 : l[l.length - 1]? = some (l[l.length - 1]'(by omega)) := List.getElem?_eq_getElem _
 rw [nwt_at h1]
 by_cases e : i = l.length - 1
 ·subst e; exact Nat.le_refl _
 ·exact Nat.le_of_lt (List.pairwise_iff_getElem.1 h.up i (l.length - 1) hi (by omega) (by omega))
theorem per_0 {l : List Vn} {v : Vn} (h : per l v = 0) : wgh v = 0 ∧ nwt l < v.a := by
 unfold per at h
 split at h
 ·rename_i h1; exact absurd h h1
 ·rename_i h1
  split at h
  ·cases h
  ·exact ⟨by simpa using h1, by omega⟩
theorem Srt.snoc {l : List Vn} {v : Vn} (h : Srt l) (hp : per l v = 0) : Srt (l ++ [v]) := by
 obtain ⟨h1, h2⟩ := per_0 hp
 refine ⟨List.pairwise_append.2 ⟨h.up, List.pairwise_singleton _ _, fun a ha b hb => ?_⟩, fun u hu => ?_, fun u hu => ?_⟩
 ·simp at hb; subst hb
  have := nwt_ge h a ha
  omega
 ·rcases List.mem_append.1 hu with hu | hu
  ·exact h.one u hu
  ·simp at hu; subst hu; omega
 ·rcases List.mem_append.1 hu with hu | hu
  ·exact h.ok u hu
  ·simp at hu; subst hu; exact h1
theorem puts_cons_ok {l vs : List Vn} {v : Vn} (h : per l v = 0) : puts l (v :: vs) = ((puts (l ++ [v]) vs).1, (puts (l ++ [v]) vs).2.1 + 1, (puts (l ++ [v]) vs).2.2) := by
 rw [puts, if_neg (by simp [h])]
theorem puts_cons_bad {l vs : List Vn} {v : Vn} (h : per l v ≠ 0) : puts l (v :: vs) = (l, 0, per l v) := by
 rw [puts, if_pos h]
def cnt (l : List Vn) (t : Nat) : Nat := l.countP (fun v => decide (v.a ≤ t))
theorem cnt_le (l : List Vn) (t : Nat) : cnt l t ≤ l.length := List.countP_le_length
theorem cnt_is {l : List Vn} {t i : Nat} (hi : i ≤ l.length) (h1 : ∀ k v, l[k]? = some v → k < i → v.a ≤ t) (h2 : ∀ k v, l[k]? = some v → i ≤ k → t < v.a) : cnt l t = i := by
 rw [cnt, ← List.take_append_drop i l, List.countP_append]
 have e1 : (l.take i).countP (fun v => decide (v.a ≤ t)) = (l.take i).length := by
  rw [List.countP_eq_length]
  intro v hv
  obtain ⟨k, hk, rfl⟩ := List.mem_iff_getElem.1 hv
  have hk2 : k < i := by simp at hk; omega
  have := h1 k _ (List.getElem?_eq_getElem (by simp at hk; omega)) hk2
  simpa using this
 have e2 : (l.drop i).countP (fun v => decide (v.a ≤ t)) = 0 := by
  rw [List.countP_eq_zero]
  intro v hv
  obtain ⟨k, hk, rfl⟩ := List.mem_iff_getElem.1 hv
  have := h2 (i + k) _ (List.getElem?_eq_getElem (by simp at hk; omega)) (by omega)
  simp
  omega
 rw [e1, e2, List.length_take]
 omega
theorem Srt.lt {l : List Vn} (h : Srt l) {i j : Nat} {u v : Vn} (hu : l[i]? = some u) (hv : l[j]? = some v) (hij : i < j) : u.a < v.a := by
 obtain ⟨h1, rfl⟩ := List.getElem?_eq_some_iff.1 hu
 obtain ⟨h2, rfl⟩ := List.getElem?_eq_some_iff.1 hv
 exact List.pairwise_iff_getElem.1 h.up i j h1 h2 hij
def seen (l : List Vn) (t : Nat) : Vn := if cnt l t = 0 then dd 0 else (l[cnt l t - 1]?).getD (dd 0)
theorem seen_0 {l : List Vn} {t : Nat} (h : cnt l t = 0) : seen l t = dd 0 := if_pos h
theorem seen_s {l : List Vn} {t : Nat} {v : Vn} (h : cnt l t ≠ 0) (hv : l[cnt l t - 1]? = some v) : seen l t = v := by
 rw [seen, if_neg h, hv]; rfl
theorem seen_mem {l : List Vn} {t : Nat} (h : cnt l t ≠ 0) : ∃ v, l[cnt l t - 1]? = some v ∧ seen l t = v ∧ v ∈ l := by
 have := cnt_le l t
 have hx : l[cnt l t - 1]? = some (l[cnt l t - 1]'(by omega)) := List.getElem?_eq_getElem _
 exact ⟨_, hx, seen_s h hx, List.getElem_mem _⟩
theorem dead_rec {v : Vn} (h : wgh v = 0) (hd : v.d = true) : v.r = zRc := by
 unfold wgh at h
 rw [if_pos hd] at h
 split at h
 ·assumption
 ·cases h
theorem cnt_all {l : List Vn} {t : Nat} (h : ∀ v ∈ l, v.a ≤ t) : cnt l t = l.length := by
 rw [cnt, List.countP_eq_length]
 intro v hv
 simpa using h v hv
theorem seen_late {l : List Vn} (h : Srt l) {t : Nat} (ht : nwt l ≤ t) : seen l t = (l.getLast?).getD (dd 0) := by
 have hc : cnt l t = l.length := cnt_all fun v hv => Nat.le_trans (nwt_ge h v hv) ht
 by_cases h0 : l.length = 0
 ·have : l = [] := List.eq_nil_of_length_eq_zero h0
  subst this; rfl
 ·rw [seen, if_neg (by omega), hc, List.getLast?_eq_getElem?]
theorem nwt_seen {l : List Vn} (h : Srt l) {t : Nat} (ht : nwt l ≤ t) : (seen l t).a = nwt l := by
 rw [seen_late h ht, nwt]
 cases l.getLast? <;> rfl
def pin (ps : List Nat) (lo hi : Nat) : Bool := ps.any fun p => decide (lo ≤ p) && decide (p < hi)
theorem pin_iff {ps : List Nat} {lo hi : Nat} : pin ps lo hi = true ↔ ∃ p ∈ ps, lo ≤ p ∧ p < hi := by
 simp [pin]
theorem pin_up {ps : List Nat} {lo hi lo' hi' : Nat} (h : pin ps lo hi = true) (h1 : lo' ≤ lo) (h2 : hi ≤ hi') : pin ps lo' hi' = true := by
 obtain ⟨p, hp, h3, h4⟩ := pin_iff.1 h
 exact pin_iff.2 ⟨p, hp, by omega, by omega⟩
def ned (ps : List Nat) : List Vn → List Vn
 | [] => []
 | [v] => [v]
 | v :: w :: l => if pin ps v.a w.a = true then v :: ned ps (w :: l) else ned ps (w :: l)
def kep (ps : List Nat) (v : Vn) : Bool := !v.d || pin ps 0 v.a
def trm (ps : List Nat) (l : List Vn) : List Vn := (ned ps l).filter (kep ps)
theorem ned_sub (ps : List Nat) : ∀ l : List Vn, (ned ps l).Sublist l
 | [] => List.Sublist.refl _
 | [v] => List.Sublist.refl _
 | v :: w :: l => by
  rw [ned]
  split
  ·exact (ned_sub ps (w :: l)).cons_cons v
  ·exact (ned_sub ps (w :: l)).cons v
theorem trm_sub (ps : List Nat) (l : List Vn) : (trm ps l).Sublist l := List.filter_sublist.trans (ned_sub ps l)
theorem Srt.sub {l k : List Vn} (h : Srt l) (hs : k.Sublist l) : Srt k := ⟨h.up.sublist hs, fun v hv => h.one v (hs.subset hv), fun v hv => h.ok v (hs.subset hv)⟩
theorem Srt.trm {l : List Vn} (h : Srt l) (ps : List Nat) : Srt (trm ps l) := h.sub (trm_sub ps l)
theorem ned_ne (ps : List Nat) : ∀ {l : List Vn}, l ≠ [] → ned ps l ≠ []
 | [], h => absurd rfl h
 | [v], _ => by simp [ned]
 | v :: w :: l, _ => by
  rw [ned]
  split
  ·simp
  ·exact ned_ne ps (by simp)
theorem ned_last (ps : List Nat) : ∀ l : List Vn, (ned ps l).getLast? = l.getLast?
 | [] => rfl
 | [v] => rfl
 | v :: w :: l => by
  have ih := ned_last ps (w :: l)
  rw [ned]
  split
  ·rw [List.getLast?_cons_cons, ← ih]
   have hne := ned_ne ps (l := w :: l) (by simp)
   cases hn : ned ps (w :: l) with
   | nil => exact absurd hn hne
   | cons a b => rw [List.getLast?_cons_cons]
  ·rw [List.getLast?_cons_cons, ih]
theorem ned_pin (ps : List Nat) : ∀ {l : List Vn}, l.Pairwise (fun u v => u.a < v.a) → ∀ u rest, ned ps l = u :: rest → ∀ x ∈ rest, pin ps 0 x.a = true
 | [], _, u, rest, h, x, hx => by simp [ned] at h
 | [v], _, u, rest, h, x, hx => by
  simp only [ned, List.cons.injEq] at h
  rw [← h.2] at hx; cases hx
 | v :: w :: l, hp, u, rest, h, x, hx => by
  rw [ned] at h
  have hp2 := (List.pairwise_cons.1 hp).2
  split at h
  ·rename_i hpin
   injection h with _ h2
   subst h2
   have hx2 := (ned_sub ps (w :: l)).subset hx
   have : w.a ≤ x.a := by
    rcases List.mem_cons.1 hx2 with rfl | hx3
    ·exact Nat.le_refl _
    ·exact Nat.le_of_lt ((List.pairwise_cons.1 hp2).1 x hx3)
   exact pin_up hpin (Nat.zero_le _) this
  ·exact ned_pin ps hp2 u rest h x hx
end D
end Go.Proofs.YtjlaffgbmcpldaaGreatDoor
set_option linter.unusedSectionVars false
namespace Go.Proofs.YtjlaffgbmcpldaaGreatDoor
abbrev Vl := Option Addr
namespace Cr

def ff (p : Nat → Bool) : Nat → Nat → Nat
 | i, 0 => i
 | i, n + 1 => if p i then i else ff p (i + 1) n
theorem ff_le (p : Nat → Bool) : ∀ (n i : Nat), ff p i n ≤ i + n
 | 0, i => by simp [ff]
 | n + 1, i => by
  unfold ff
  split
  ·omega
  ·have := ff_le p n (i + 1); omega
theorem ff_not (p : Nat → Bool) : ∀ (n i j : Nat), i ≤ j → j < ff p i n → p j = false
 | 0, i, j, h, k => by simp [ff] at k; omega
 | n + 1, i, j, h, k => by
  unfold ff at k
  split at k
  ·omega
  ·rename_i hp
   by_cases e : j = i
   ·subst e; simpa using hp
   ·exact ff_not p n (i + 1) j (by omega) k
theorem ff_is (p : Nat → Bool) : ∀ (n i : Nat), ff p i n < i + n → p (ff p i n) = true
 | 0, i, h => by simp [ff] at h
 | n + 1, i, h => by
  unfold ff at h ⊢
  split
  ·assumption
  ·rename_i hp
   rw [if_neg hp] at h
   exact ff_is p n (i + 1) (by omega)

class Bits (α : Type) where
 bt : α → Nat → Bool
 ext : ∀ x y, (∀ i, i < 200 → bt x i = bt y i) → x = y
variable {α : Type} [Bits α] [DecidableEq α]
def par (x y : α) : Nat := ff (fun i => Bits.bt x i != Bits.bt y i) 0 200
theorem par_le (x y : α) : par x y ≤ 200 := by have := ff_le (fun i => Bits.bt x i != Bits.bt y i) 200 0; simpa [par] using this
theorem par_eq {x y : α} {i : Nat} (h : i < par x y) : Bits.bt x i = Bits.bt y i := by
 have := ff_not (fun i => Bits.bt x i != Bits.bt y i) 200 0 i (by omega) h
 simpa using this
theorem par_ne {x y : α} (h : par x y < 200) : Bits.bt x (par x y) ≠ Bits.bt y (par x y) := by
 have := ff_is (fun i => Bits.bt x i != Bits.bt y i) 200 0 (by simpa [par] using h)
 simpa [par] using this
theorem par_of {x y : α} {d : Nat} (hd : d < 200) (h : ∀ i, i < d → Bits.bt x i = Bits.bt y i) (hn : Bits.bt x d ≠ Bits.bt y d) : par x y = d := by
 have h1 := fun h => par_ne (x := x) (y := y) h
 have h2 := fun h => par_eq (x := x) (y := y) (i := d) h
 have h3 := par_le x y
 by_cases c : par x y < d
 ·exact absurd (h _ c) (h1 (by omega))
 ·by_cases c' : d < par x y
  ·exact absurd (h2 c') hn
  ·omega
theorem par_all {x y : α} (h : par x y = 200) : x = y := Bits.ext x y fun i hi => par_eq (by omega)
theorem par_self (x : α) : par x x = 200 := by
 have := par_le x x
 by_cases c : par x x < 200
 ·exact absurd rfl (par_ne c)
 ·omega
theorem par_200 {x y : α} : par x y = 200 ↔ x = y := ⟨par_all, fun h => by subst h; exact par_self x⟩
theorem par_lt {x y : α} : par x y < 200 ↔ x ≠ y := by have := par_le x y; rw [Ne, ← par_200]; omega
theorem par_ge {x y : α} {d : Nat} (hd : d ≤ 200) (h : ∀ i, i < d → Bits.bt x i = Bits.bt y i) : d ≤ par x y := by
 by_cases c : par x y < d
 ·exact absurd (h _ c) (par_ne (by omega))
 ·omega
theorem par_up {x y : α} {d : Nat} (h : Bits.bt x d ≠ Bits.bt y d) : par x y ≤ d := by
 by_cases c : d < par x y
 ·exact absurd (par_eq c) h
 ·omega
def lt (x y : α) : Bool := decide (par x y < 200) && !Bits.bt x (par x y)
theorem lt_of {x y : α} {d : Nat} (hd : d < 200) (h : ∀ i, i < d → Bits.bt x i = Bits.bt y i) (hx : Bits.bt x d = false) (hy : Bits.bt y d = true) : lt x y = true := by
 have := par_of hd h (by rw [hx, hy]; decide)
 simp [lt, this, hd, hx]
theorem not_lt_of {x y : α} {d : Nat} (hd : d < 200) (h : ∀ i, i < d → Bits.bt x i = Bits.bt y i) (hx : Bits.bt x d = true) (hy : Bits.bt y d = false) : lt x y = false := by
 have := par_of hd h (by rw [hx, hy]; decide)
 simp [lt, this, hd, hx]
theorem lt_irr (x : α) : lt x x = false := by simp [lt, par_self]
theorem lt_iff {x y : α} : lt x y = true ↔ ∃ d, d < 200 ∧ (∀ i, i < d → Bits.bt x i = Bits.bt y i) ∧ Bits.bt x d = false ∧ Bits.bt y d = true := by
 constructor
 ·intro h
  simp only [lt, Bool.and_eq_true, decide_eq_true_eq, Bool.not_eq_true'] at h
  refine ⟨par x y, h.1, fun i hi => par_eq hi, h.2, ?_⟩
  have := par_ne h.1
  rw [h.2] at this
  cases hb : Bits.bt y (par x y)
  ·exact absurd hb.symm this
  ·rfl
 ·rintro ⟨d, hd, h, hx, hy⟩
  exact lt_of hd h hx hy
theorem lt_asym {x y : α} (h : lt x y = true) : lt y x = false := by
 obtain ⟨d, hd, h, hx, hy⟩ := lt_iff.1 h
 exact not_lt_of hd (fun i hi => (h i hi).symm) hy hx
theorem lt_ne {x y : α} (h : lt x y = true) : x ≠ y := fun e => by subst e; rw [lt_irr] at h; cases h
theorem lt_tot {x y : α} (h : x ≠ y) (hl : lt x y = false) : lt y x = true := by
 have hp := par_lt.2 h
 have hn := par_ne hp
 simp only [lt, hp, decide_true, Bool.true_and, Bool.not_eq_false'] at hl
 refine lt_of hp (fun i hi => (par_eq hi).symm) ?_ hl
 rw [hl] at hn
 cases hb : Bits.bt y (par x y)
 ·rfl
 ·exact absurd hb.symm hn
theorem lt_trans {x y z : α} (h : lt x y = true) (k : lt y z = true) : lt x z = true := by
 obtain ⟨d, hd, h, hx, hy⟩ := lt_iff.1 h
 obtain ⟨e, he, k, ky, kz⟩ := lt_iff.1 k
 by_cases c : d < e
 ·exact lt_of hd (fun i hi => (h i hi).trans (k i (by omega))) hx ((k d c).symm.trans hy)
 ·by_cases c' : e < d
  ·exact lt_of he (fun i hi => (h i (by omega)).trans (k i hi)) ((h e c').trans ky) kz
  ·obtain rfl : d = e := by omega
   rw [hy] at ky; cases ky

inductive Tr (α : Type) where
 | lf (a : Nat) (k : α) (v : Vl)
 | br (a : Nat) (b : Nat) (l r : Tr α)
namespace Tr
def ad : Tr α → Nat
 | lf a _ _ => a
 | br a _ _ _ => a
def bit : Tr α → Nat
 | lf _ _ _ => 200
 | br _ b _ _ => b
def ls : Tr α → List (α × Vl)
 | lf _ k v => [(k, v)]
 | br _ _ l r => l.ls ++ r.ls
def bl : Tr α → List Nat
 | lf a _ _ => [a]
 | br a _ l r => a :: (l.bl ++ r.bl)
def hd : Tr α → α × Vl
 | lf _ k v => (k, v)
 | br _ _ l _ => l.hd
def wf : Tr α → Prop
 | lf _ _ _ => True
 | br _ b l r => b < 200 ∧ (∀ e ∈ l.ls, Bits.bt e.1 b = false) ∧ (∀ e ∈ r.ls, Bits.bt e.1 b = true) ∧ (∀ e ∈ l.ls ++ r.ls, ∀ f ∈ l.ls ++ r.ls, ∀ i, i < b → Bits.bt e.1 i = Bits.bt f.1 i) ∧ l.wf ∧ r.wf
theorem ls_ne : ∀ t : Tr α, t.ls ≠ []
 | lf _ _ _ => by simp [ls]
 | br _ _ l _ => by simp [ls, l.ls_ne]
theorem hd_ls : ∀ t : Tr α, t.ls.head? = some t.hd
 | lf _ _ _ => rfl
 | br _ _ l r => by
  have := l.hd_ls
  have hn := l.ls_ne
  rw [ls, List.head?_append, this]; rfl
theorem hd_mem (t : Tr α) : t.hd ∈ t.ls := List.mem_of_mem_head? (by rw [t.hd_ls]; exact rfl)
theorem ad_mem : ∀ t : Tr α, t.ad ∈ t.bl
 | lf _ _ _ => by simp [ad, bl]
 | br _ _ _ _ => by simp [ad, bl]
theorem bit_le : ∀ {t : Tr α}, t.wf → t.bit ≤ 200
 | lf _ _ _, _ => by simp [bit]
 | br _ _ _ _, h => by have := h.1; simp only [bit]; omega
theorem agree : ∀ {t : Tr α}, t.wf → ∀ e ∈ t.ls, ∀ f ∈ t.ls, ∀ i, i < t.bit → Bits.bt e.1 i = Bits.bt f.1 i
 | lf _ _ _, _, e, he, f, hf, i, hi => by
  simp only [ls, List.mem_singleton] at he hf; subst he; subst hf; rfl
 | br _ _ _ _, h, e, he, f, hf, i, hi => h.2.2.2.1 e he f hf i hi
theorem bit_kid : ∀ {t : Tr α} {b : Nat} {c : Bool}, t.wf → b < 200 → (∀ e ∈ t.ls, ∀ f ∈ t.ls, ∀ i, i < b → Bits.bt e.1 i = Bits.bt f.1 i) → (∀ e ∈ t.ls, Bits.bt e.1 b = c) → b < t.bit
 | lf _ _ _, b, c, _, hb, _, _ => hb
 | br _ b' l r, b, c, h, hb, ha, hc => by
  have h1 := h.2.1 _ l.hd_mem
  have h2 := h.2.2.1 _ r.hd_mem
  have m1 : l.hd ∈ l.ls ++ r.ls := List.mem_append_left _ l.hd_mem
  have m2 : r.hd ∈ l.ls ++ r.ls := List.mem_append_right _ r.hd_mem
  simp only [bit]
  by_cases e : b' < b
  ·have := ha _ m1 _ m2 b' e
   rw [h1, h2] at this; cases this
  ·by_cases e' : b' = b
   ·subst e'
    rw [hc _ m1] at h1; rw [hc _ m2] at h2
    rw [h1] at h2; cases h2
   ·omega
theorem kids {a b : Nat} {l r : Tr α} (h : (br a b l r).wf) : b < l.bit ∧ b < r.bit :=
 ⟨bit_kid h.2.2.2.2.1 h.1 (fun e he f hf => h.2.2.2.1 e (List.mem_append_left _ he) f (List.mem_append_left _ hf)) h.2.1,
   bit_kid h.2.2.2.2.2 h.1 (fun e he f hf => h.2.2.2.1 e (List.mem_append_right _ he) f (List.mem_append_right _ hf)) h.2.2.1⟩
def near (k : α) : Tr α → Tr α
 | lf a x v => lf a x v
 | br _ b l r => if Bits.bt k b then r.near k else l.near k
def sub (k : α) (d : Nat) : Tr α → Tr α
 | lf a x v => lf a x v
 | br a b l r => if b < d then (if Bits.bt k b then r.sub k d else l.sub k d) else br a b l r
theorem near_sub {k : α} : ∀ {t : Tr α}, t.wf → t.near k = t.sub k 200
 | lf _ _ _, _ => rfl
 | br _ b l r, h => by
  simp only [near, sub, h.1, if_true]
  rw [near_sub h.2.2.2.2.1, near_sub h.2.2.2.2.2]
theorem near_lf (k : α) : ∀ t : Tr α, ∃ a x v, t.near k = lf a x v
 | lf a x v => ⟨a, x, v, rfl⟩
 | br _ b l r => by
  simp only [near]
  split
  ·exact r.near_lf k
  ·exact l.near_lf k
theorem near_mem (k : α) : ∀ t : Tr α, (t.near k).hd ∈ t.ls
 | lf a x v => by simp [near, hd, ls]
 | br _ b l r => by
  simp only [near, ls]
  split
  ·exact List.mem_append_right _ (r.near_mem k)
  ·exact List.mem_append_left _ (l.near_mem k)
theorem near_par (k : α) : ∀ {t : Tr α}, t.wf → ∀ e ∈ t.ls, par e.1 k ≤ par (t.near k).hd.1 k
 | lf _ _ _, _, e, he => by simp only [ls, List.mem_singleton] at he; subst he; exact Nat.le_refl _
 | br a b l r, h, e, he => by
  have hm := near_mem k (br a b l r)
  obtain ⟨hb, hl, hr, hag, wl, wr⟩ := h
  cases hk : Bits.bt k b
  ·simp only [near, hk, Bool.false_eq_true, if_false] at hm ⊢
   rcases List.mem_append.1 he with he | he
   ·exact near_par k wl e he
   ·have hu : par e.1 k ≤ b := par_up (by rw [hr e he, hk]; decide)
    have hnl := hl _ (near_mem k l)
    by_cases c : par (l.near k).hd.1 k < b
    ·refine par_up ?_
     rw [hag e (List.mem_append_right _ he) _ hm _ c]
     exact par_ne (by omega)
    ·omega
  ·simp only [near, hk, if_true] at hm ⊢
   rcases List.mem_append.1 he with he | he
   ·have hu : par e.1 k ≤ b := par_up (by rw [hl e he, hk]; decide)
    by_cases c : par (r.near k).hd.1 k < b
    ·refine par_up ?_
     rw [hag e (List.mem_append_left _ he) _ hm _ c]
     exact par_ne (by omega)
    ·omega
   ·exact near_par k wr e he
theorem near_is {k : α} {t : Tr α} (h : t.wf) : (t.near k).hd.1 = k ↔ ∃ v, (k, v) ∈ t.ls := by
 constructor
 ·intro e
  exact ⟨(t.near k).hd.2, by
   have := near_mem k t
   rcases hh : (t.near k).hd with ⟨x, v⟩
   rw [hh] at this e
   subst e; exact this⟩
 ·rintro ⟨v, hv⟩
  have := near_par k h _ hv
  rw [par_self] at this
  have := par_le (t.near k).hd.1 k
  exact par_all (by omega)
theorem sub_wf (k : α) (d : Nat) : ∀ {t : Tr α}, t.wf → (t.sub k d).wf
 | lf _ _ _, h => h
 | br a b l r, h => by
  simp only [sub]
  split
  ·split
   ·exact sub_wf k d h.2.2.2.2.2
   ·exact sub_wf k d h.2.2.2.2.1
  ·exact h
theorem sub_bit {k : α} {d : Nat} (hd : d ≤ 200) : ∀ t : Tr α, d ≤ (t.sub k d).bit
 | lf _ _ _ => hd
 | br a b l r => by
  simp only [sub]
  split
  ·split
   ·exact sub_bit hd r
   ·exact sub_bit hd l
  ·simp only [bit]; omega
theorem sub_near {k : α} {d : Nat} : ∀ t : Tr α, (t.sub k d).near k = t.near k
 | lf _ _ _ => rfl
 | br a b l r => by
  simp only [sub]
  split
  ·split
   ·rename_i hk; simp only [near, hk, if_true]; exact sub_near r
   ·rename_i hk; simp only [near, hk]; exact sub_near l
  ·rfl
theorem sub_par {k : α} {t : Tr α} (h : t.wf) {d : Nat} (hd : par (t.near k).hd.1 k = d) (hl : d < 200) : ∀ e ∈ (t.sub k d).ls, par e.1 k = d := by
 intro e he
 have hw := sub_wf k d h
 have hb := sub_bit (k := k) (show d ≤ 200 by omega) t
 have hn := near_mem k (t.sub k d)
 rw [sub_near] at hn
 have key : d < (t.sub k d).bit := by
  rcases Nat.lt_or_ge d (t.sub k d).bit with c | c
  ·exact c
  ·have e0 : (t.sub k d).bit = d := by omega
   have hx := sub_near (k := k) (d := d) t
   cases ht : t.sub k d with
   | lf a x v => rw [ht] at e0; simp [bit] at e0; omega
   | br a b l r =>
    rw [ht] at e0 hw hx
    simp only [bit] at e0
    subst e0
    obtain ⟨_, wl, wr, _, _, _⟩ := hw
    have hne := par_ne (x := (t.near k).hd.1) (y := k) (by omega)
    rw [hd] at hne
    cases hk : Bits.bt k b
    ·simp only [near, hk, Bool.false_eq_true, if_false] at hx
     rw [← hx, wl _ (near_mem k l), hk] at hne
     exact absurd rfl hne
    ·simp only [near, hk, if_true] at hx
     rw [← hx, wr _ (near_mem k r), hk] at hne
     exact absurd rfl hne
 have ha := agree hw e he _ hn
 refine par_of hl (fun i hi => ?_) ?_
 ·rw [ha i (by omega)]; exact par_eq (by omega)
 ·rw [ha d key]; have := par_ne (x := (t.near k).hd.1) (y := k) (by omega); rwa [hd] at this
theorem sorted : ∀ {t : Tr α}, t.wf → t.ls.Pairwise (fun e f => lt e.1 f.1 = true)
 | lf _ _ _, _ => by simp [ls]
 | br a b l r, h => by
  obtain ⟨hb, hl, hr, hag, wl, wr⟩ := h
  rw [ls, List.pairwise_append]
  refine ⟨sorted wl, sorted wr, fun e he f hf => lt_of hb (fun i hi => hag e (List.mem_append_left _ he) f (List.mem_append_right _ hf) i hi) (hl e he) (hr f hf)⟩

def ins (k : α) (v : Vl) (d a c : Nat) : Tr α → Tr α
 | br a' b l r => if b < d then (if Bits.bt k b then br a' b l (r.ins k v d a c) else br a' b (l.ins k v d a c) r) else (if Bits.bt k d then br c d (br a' b l r) (lf a k v) else br c d (lf a k v) (br a' b l r))
 | t => if Bits.bt k d then br c d t (lf a k v) else br c d (lf a k v) t
def mk (k : α) (v : Vl) (d a c : Nat) (t : Tr α) : Tr α := if Bits.bt k d then br c d t (lf a k v) else br c d (lf a k v) t
theorem ins_br {k : α} {v : Vl} {d a c a' b : Nat} {l r : Tr α} : (br a' b l r).ins k v d a c = if b < d then (if Bits.bt k b then br a' b l (r.ins k v d a c) else br a' b (l.ins k v d a c) r) else mk k v d a c (br a' b l r) := rfl
theorem ins_lf {k : α} {v : Vl} {d a c a' : Nat} {x : α} {u : Vl} : (lf a' x u).ins k v d a c = mk k v d a c (lf a' x u) := rfl
theorem mk_mem {k : α} {v : Vl} {d a c : Nat} {t : Tr α} (e : α × Vl) : e ∈ (mk k v d a c t).ls ↔ e = (k, v) ∨ e ∈ t.ls := by
 unfold mk
 split
 ·simp only [ls, List.mem_append, List.mem_singleton]; exact Or.comm
 ·simp only [ls, List.mem_append, List.mem_singleton]
theorem ins_mem {k : α} {v : Vl} {d a c : Nat} (e : α × Vl) : ∀ t : Tr α, e ∈ (t.ins k v d a c).ls ↔ e = (k, v) ∨ e ∈ t.ls
 | lf _ _ _ => by rw [ins_lf]; exact mk_mem e
 | br a' b l r => by
  rw [ins_br]
  split
  ·split
   ·simp only [ls, List.mem_append, ins_mem e r]
    constructor
    ·rintro (h | h | h)
     ·exact .inr (.inl h)
     ·exact .inl h
     ·exact .inr (.inr h)
    ·rintro (h | h | h)
     ·exact .inr (.inl h)
     ·exact .inl h
     ·exact .inr (.inr h)
   ·simp only [ls, List.mem_append, ins_mem e l, or_assoc]
  ·exact mk_mem e
theorem mk_wf {k : α} {v : Vl} {d a c : Nat} {t : Tr α} (h : t.wf) (hd : d < 200) (hp : ∀ e ∈ t.ls, par e.1 k = d) : (mk k v d a c t).wf := by
 have hne : ∀ e ∈ t.ls, Bits.bt e.1 d ≠ Bits.bt k d := fun e he => by have := par_ne (x := e.1) (y := k) (by rw [hp e he]; exact hd); rwa [hp e he] at this
 have hag : ∀ e ∈ t.ls, ∀ i, i < d → Bits.bt e.1 i = Bits.bt k i := fun e he i hi => par_eq (by rw [hp e he]; exact hi)
 unfold mk
 cases hk : Bits.bt k d
 ·simp only [hk, Bool.false_eq_true, if_false] at hne ⊢
  refine ⟨hd, ?_, ?_, ?_, trivial, h⟩
  ·intro e he; simp only [ls, List.mem_singleton] at he; subst he; exact hk
  ·intro e he; have := hne e he; cases hb : Bits.bt e.1 d; exact absurd hb this; rfl
  ·intro e he f hf i hi
   have : ∀ e ∈ (lf a k v).ls ++ t.ls, Bits.bt e.1 i = Bits.bt k i := by
    intro e he
    rcases List.mem_append.1 he with he | he
    ·simp only [ls, List.mem_singleton] at he; subst he; rfl
    ·exact hag e he i hi
   rw [this e he, this f hf]
 ·simp only [hk, if_true] at hne ⊢
  refine ⟨hd, ?_, ?_, ?_, h, trivial⟩
  ·intro e he; have := hne e he; cases hb : Bits.bt e.1 d; rfl; exact absurd hb this
  ·intro e he; simp only [ls, List.mem_singleton] at he; subst he; exact hk
  ·intro e he f hf i hi
   have : ∀ e ∈ t.ls ++ (lf a k v).ls, Bits.bt e.1 i = Bits.bt k i := by
    intro e he
    rcases List.mem_append.1 he with he | he
    ·exact hag e he i hi
    ·simp only [ls, List.mem_singleton] at he; subst he; rfl
   rw [this e he, this f hf]
theorem ins_wf {k : α} {v : Vl} {d a c : Nat} : ∀ {t : Tr α}, t.wf → par (t.near k).hd.1 k = d → d < 200 → (t.ins k v d a c).wf
 | lf a' x u, h, hd, hl => by rw [ins_lf]; exact mk_wf h hl (sub_par h hd hl)
 | br a' b l r, h, hd, hl => by
  have hn := near_mem k (br a' b l r)
  rw [ins_br]
  split
  ·rename_i hb
   have hkn : ∀ e ∈ (br a' b l r).ls, ∀ i, i < b → Bits.bt e.1 i = Bits.bt k i := fun e he i hi => by
    rw [agree h e he _ hn i hi]; exact par_eq (by omega)
   obtain ⟨hb2, wl, wr, hag, hwl, hwr⟩ := h
   split
   ·rename_i hk
    have hd' : par (r.near k).hd.1 k = d := by simpa only [near, hk, if_true] using hd
    refine ⟨hb2, wl, ?_, ?_, hwl, ins_wf hwr hd' hl⟩
    ·intro e he
     rcases (ins_mem e r).1 he with rfl | he
     ·exact hk
     ·exact wr e he
    ·have : ∀ e ∈ l.ls ++ (r.ins k v d a c).ls, ∀ i, i < b → Bits.bt e.1 i = Bits.bt k i := by
      intro e he i hi
      rcases List.mem_append.1 he with he | he
      ·exact hkn e (List.mem_append_left _ he) i hi
      ·rcases (ins_mem e r).1 he with rfl | he
       ·rfl
       ·exact hkn e (List.mem_append_right _ he) i hi
     intro e he f hf i hi
     rw [this e he i hi, this f hf i hi]
   ·rename_i hk
    have hd' : par (l.near k).hd.1 k = d := by simpa only [near, hk, Bool.false_eq_true, if_false] using hd
    refine ⟨hb2, ?_, wr, ?_, ins_wf hwl hd' hl, hwr⟩
    ·intro e he
     rcases (ins_mem e l).1 he with rfl | he
     ·simpa using hk
     ·exact wl e he
    ·have : ∀ e ∈ (l.ins k v d a c).ls ++ r.ls, ∀ i, i < b → Bits.bt e.1 i = Bits.bt k i := by
      intro e he i hi
      rcases List.mem_append.1 he with he | he
      ·rcases (ins_mem e l).1 he with rfl | he
       ·rfl
       ·exact hkn e (List.mem_append_left _ he) i hi
      ·exact hkn e (List.mem_append_right _ he) i hi
     intro e he f hf i hi
     rw [this e he i hi, this f hf i hi]
  ·rename_i hb
   have := sub_par h hd hl
   simp only [sub, hb, if_false] at this
   exact mk_wf h hl this

def upd (k : α) (u : Vl) : Tr α → Tr α
 | lf a x v => lf a x (if x = k then u else v)
 | br a b l r => if Bits.bt k b then br a b l (r.upd k u) else br a b (l.upd k u) r
theorem upd_ls {k : α} {u : Vl} : ∀ {t : Tr α}, t.wf → (t.upd k u).ls = t.ls.map (fun e => if e.1 = k then (e.1, u) else e)
 | lf a x v, _ => by
  simp only [upd, ls, List.map_cons, List.map_nil]
  split <;> rfl
 | br a b l r, h => by
  obtain ⟨hb, hl, hr, hag, wl, wr⟩ := h
  have idl : Bits.bt k b = true → l.ls.map (fun e => if e.1 = k then (e.1, u) else e) = l.ls := fun hk => by
   conv => rhs; rw [← List.map_id l.ls]
   refine List.map_congr_left fun e he => ?_
   rw [if_neg]; rfl
   intro c; rw [← c, hl e he] at hk; cases hk
  have idr : Bits.bt k b = false → r.ls.map (fun e => if e.1 = k then (e.1, u) else e) = r.ls := fun hk => by
   conv => rhs; rw [← List.map_id r.ls]
   refine List.map_congr_left fun e he => ?_
   rw [if_neg]; rfl
   intro c; rw [← c, hr e he] at hk; cases hk
  simp only [upd]
  split
  ·rename_i hk; simp only [ls, List.map_append, upd_ls wr, idl hk]
  ·rename_i hk; simp only [ls, List.map_append, upd_ls wl, idr (by simpa using hk)]
theorem upd_wf {k : α} {u : Vl} : ∀ {t : Tr α}, t.wf → (t.upd k u).wf
 | lf a x v, _ => trivial
 | br a b l r, h => by
  have hm : ∀ t : Tr α, t.wf → ∀ e ∈ (t.upd k u).ls, ∃ f ∈ t.ls, f.1 = e.1 := by
   intro t ht e he
   rw [upd_ls ht] at he
   obtain ⟨f, hf, rfl⟩ := List.mem_map.1 he
   refine ⟨f, hf, ?_⟩
   split <;> rfl
  obtain ⟨hb, hl, hr, hag, wl, wr⟩ := h
  simp only [upd]
  split
  ·refine ⟨hb, hl, ?_, ?_, wl, upd_wf wr⟩
   ·intro e he; obtain ⟨f, hf, e1⟩ := hm r wr e he; rw [← e1]; exact hr f hf
   ·have : ∀ e ∈ l.ls ++ (r.upd k u).ls, ∃ f ∈ l.ls ++ r.ls, f.1 = e.1 := by
     intro e he
     rcases List.mem_append.1 he with he | he
     ·exact ⟨e, List.mem_append_left _ he, rfl⟩
     ·obtain ⟨f, hf, e1⟩ := hm r wr e he; exact ⟨f, List.mem_append_right _ hf, e1⟩
    intro e he f hf i hi
    obtain ⟨e', he', e1⟩ := this e he
    obtain ⟨f', hf', e2⟩ := this f hf
    rw [← e1, ← e2]; exact hag e' he' f' hf' i hi
  ·refine ⟨hb, ?_, hr, ?_, upd_wf wl, wr⟩
   ·intro e he; obtain ⟨f, hf, e1⟩ := hm l wl e he; rw [← e1]; exact hl f hf
   ·have : ∀ e ∈ (l.upd k u).ls ++ r.ls, ∃ f ∈ l.ls ++ r.ls, f.1 = e.1 := by
     intro e he
     rcases List.mem_append.1 he with he | he
     ·obtain ⟨f, hf, e1⟩ := hm l wl e he; exact ⟨f, List.mem_append_left _ hf, e1⟩
     ·exact ⟨e, List.mem_append_right _ he, rfl⟩
    intro e he f hf i hi
    obtain ⟨e', he', e1⟩ := this e he
    obtain ⟨f', hf', e2⟩ := this f hf
    rw [← e1, ← e2]; exact hag e' he' f' hf' i hi
def del (k : α) : Tr α → Option (Tr α)
 | lf a x v => none
 | br a b l r => if Bits.bt k b then (match r.del k with | none => some l | some r' => some (br a b l r')) else (match l.del k with | none => some r | some l' => some (br a b l' r))
def lso : Option (Tr α) → List (α × Vl)
 | none => []
 | some t => t.ls
theorem ls_del : ∀ {t : Tr α} {k : α}, t.wf → (t.near k).hd.1 = k → lso (t.del k) = t.ls.filter (fun e => decide (e.1 ≠ k)) ∧ ∀ t', t.del k = some t' → t'.wf
 | lf a x v, k, h, hn => by
  have : x = k := hn
  subst this
  simp [del, lso, ls]
 | br a b l r, k, h, hn => by
  have hbr := h
  obtain ⟨hb, hl, hr, hag, wl, wr⟩ := h
  simp only [near] at hn
  simp only [del]
  split
  ·rename_i hk
   rw [if_pos hk] at hn
   have idl : l.ls.filter (fun e => decide (e.1 ≠ k)) = l.ls := by
    rw [List.filter_eq_self]
    intro e he
    simp only [decide_eq_true_eq]
    intro c; rw [← c, hl e he] at hk; cases hk
   obtain ⟨i1, i2⟩ := ls_del wr hn
   have hm : ∀ e ∈ lso (r.del k), e ∈ r.ls := fun e he => by rw [i1] at he; exact (List.mem_filter.1 he).1
   cases hd : r.del k with
   | none =>
    rw [hd] at i1
    refine ⟨?_, fun t' h' => by injection h' with h'; subst h'; exact wl⟩
    simp only [lso, ls, List.filter_append, idl]
    rw [← i1]; simp [lso]
   | some r' =>
    rw [hd] at i1 hm
    simp only [lso] at i1 hm
    refine ⟨?_, fun t' h' => ?_⟩
    ·simp only [lso, ls, List.filter_append, idl, i1]
    ·injection h' with h'; subst h'
     refine ⟨hb, hl, fun e he => hr e (hm e he), ?_, wl, i2 r' hd⟩
     have : ∀ e ∈ l.ls ++ r'.ls, e ∈ l.ls ++ r.ls := by
      intro e he
      rcases List.mem_append.1 he with he | he
      ·exact List.mem_append_left _ he
      ·exact List.mem_append_right _ (hm e he)
     exact fun e he f hf => hag e (this e he) f (this f hf)
  ·rename_i hk
   rw [if_neg hk] at hn
   have idr : r.ls.filter (fun e => decide (e.1 ≠ k)) = r.ls := by
    rw [List.filter_eq_self]
    intro e he
    simp only [decide_eq_true_eq]
    intro c; rw [← c, hr e he] at hk; exact hk rfl
   obtain ⟨i1, i2⟩ := ls_del wl hn
   have hm : ∀ e ∈ lso (l.del k), e ∈ l.ls := fun e he => by rw [i1] at he; exact (List.mem_filter.1 he).1
   cases hd : l.del k with
   | none =>
    rw [hd] at i1
    refine ⟨?_, fun t' h' => by injection h' with h'; subst h'; exact wr⟩
    simp only [lso, ls, List.filter_append, idr]
    rw [← i1]; simp [lso]
   | some l' =>
    rw [hd] at i1 hm
    simp only [lso] at i1 hm
    refine ⟨?_, fun t' h' => ?_⟩
    ·simp only [lso, ls, List.filter_append, idr, i1]
    ·injection h' with h'; subst h'
     refine ⟨hb, fun e he => hl e (hm e he), hr, ?_, i2 l' hd, wr⟩
     have : ∀ e ∈ l'.ls ++ r.ls, e ∈ l.ls ++ r.ls := by
      intro e he
      rcases List.mem_append.1 he with he | he
      ·exact List.mem_append_left _ (hm e he)
      ·exact List.mem_append_right _ he
     exact fun e he f hf => hag e (this e he) f (this f hf)
end Tr
end Cr
end Go.Proofs.YtjlaffgbmcpldaaGreatDoor
namespace Go.Proofs.YtjlaffgbmcpldaaGreatDoor
namespace Cr
variable {α : Type} [Bits α] [DecidableEq α]
namespace Tr
theorem sub_has {k : α} {d : Nat} (hd : d ≤ 200) : ∀ {t : Tr α}, t.wf → (t.ls.filter (fun e => decide (d ≤ par e.1 k))) = (t.sub k d).ls.filter (fun e => decide (d ≤ par e.1 k))
 | lf _ _ _, _ => rfl
 | br a b l r, h => by
  obtain ⟨hb, hl, hr, hag, wl, wr⟩ := h
  simp only [sub]
  split
  ·rename_i hbd
   split
   ·rename_i hk
    rw [ls, List.filter_append, sub_has hd wr]
    have : l.ls.filter (fun e => decide (d ≤ par e.1 k)) = [] := by
     rw [List.filter_eq_nil_iff]
     intro e he
     have : par e.1 k ≤ b := par_up (by rw [hl e he, hk]; decide)
     simp only [decide_eq_true_eq]; omega
    rw [this, List.nil_append]
   ·rename_i hk
    rw [ls, List.filter_append, sub_has hd wl]
    have : r.ls.filter (fun e => decide (d ≤ par e.1 k)) = [] := by
     rw [List.filter_eq_nil_iff]
     intro e he
     have : par e.1 k ≤ b := par_up (by rw [hr e he]; intro c; exact hk c.symm)
     simp only [decide_eq_true_eq]; omega
    rw [this, List.append_nil]
  ·rfl
theorem sub_all {k : α} {d : Nat} (hd : d ≤ 200) {t : Tr α} (h : t.wf) (hh : d ≤ par (t.sub k d).hd.1 k) : ∀ e ∈ (t.sub k d).ls, d ≤ par e.1 k := by
 intro e he
 have hw := sub_wf k d h
 have hb := sub_bit (k := k) hd t
 refine par_ge hd fun i hi => ?_
 rw [agree hw e he _ (hd_mem _) i (by omega)]
 exact par_eq (by omega)
theorem pre_yes {k : α} {d : Nat} (hd : d ≤ 200) {t : Tr α} (h : t.wf) (hh : d ≤ par (t.sub k d).hd.1 k) : t.ls.filter (fun e => decide (d ≤ par e.1 k)) = (t.sub k d).ls := by
 rw [sub_has hd h, List.filter_eq_self]
 intro e he
 exact decide_eq_true (sub_all hd h hh e he)
theorem pre_no {k : α} {d : Nat} (hd : d ≤ 200) {t : Tr α} (h : t.wf) (hh : ¬ d ≤ par (t.sub k d).hd.1 k) : t.ls.filter (fun e => decide (d ≤ par e.1 k)) = [] := by
 rw [sub_has hd h, List.filter_eq_nil_iff]
 intro e he
 simp only [decide_eq_true_eq]
 intro c
 refine hh (par_ge hd fun i hi => ?_)
 have hw := sub_wf k d h
 have hb := sub_bit (k := k) hd t
 rw [agree hw _ (hd_mem _) e he i (by omega)]
 exact par_eq (by omega)
def beh (k : α) (d : Nat) : Tr α → Option (Tr α) → Option (Tr α)
 | lf _ _ _, o => o
 | br _ b l r, o => if b < d then (if Bits.bt k b then r.beh k d o else l.beh k d (some r)) else o
def hdo : Option (Tr α) → Option (α × Vl)
 | none => none
 | some t => some t.hd
theorem find_none {p : α × Vl → Bool} {l : List (α × Vl)} (h : ∀ e ∈ l, p e = false) : l.find? p = none := by
 rw [List.find?_eq_none]; intro e he; rw [h e he]; decide
theorem find_hd {p : α × Vl → Bool} {t : Tr α} (h : p t.hd = true) : t.ls.find? p = some t.hd := by
 have := t.hd_ls
 cases ht : t.ls with
 | nil => exact absurd ht t.ls_ne
 | cons e l => rw [ht] at this; injection this with this; rw [List.find?_cons, this, h]
theorem beh_find {k : α} {d : Nat} : ∀ {t : Tr α} {o : Option (Tr α)}, t.wf → par (t.near k).hd.1 k = d → (d = 200 ∨ d < 200 ∧ Bits.bt k d = true) → (t.ls.find? (fun e => lt k e.1)).or (hdo o) = hdo (t.beh k d o)
 | lf a x v, o, h, hd, hk => by
  have : lt k x = false := by
   have hd : par x k = d := hd
   rcases hk with hk | ⟨h1, h2⟩
   ·rw [hk] at hd; obtain rfl := par_all hd; exact lt_irr x
   ·exact not_lt_of h1 (fun i hi => (par_eq (by omega)).symm) h2 (by
     have := par_ne (x := x) (y := k) (by omega)
     rw [hd, h2] at this
     cases hb : Bits.bt x d
     ·rfl
     ·exact absurd hb this)
  simp [ls, this, beh]
 | br a b l r, o, h, hd, hk => by
  have hh := h
  have hn := near_mem k (br a b l r)
  obtain ⟨hb, hl, hr, hag, wl, wr⟩ := h
  simp only [beh]
  split
  ·rename_i hbd
   have hkn : ∀ e ∈ l.ls ++ r.ls, ∀ i, i < b → Bits.bt k i = Bits.bt e.1 i := fun e he i hi => by
    rw [hag e he _ hn i hi]; exact (par_eq (by omega)).symm
   split
   ·rename_i hkb
    have hd' : par (r.near k).hd.1 k = d := by simpa only [near, hkb, if_true] using hd
    rw [← beh_find wr hd' hk, ls, List.find?_append, find_none (l := l.ls), Option.none_or]
    intro e he
    exact not_lt_of hb (hkn e (List.mem_append_left _ he)) hkb (hl e he)
   ·rename_i hkb
    have hd' : par (l.near k).hd.1 k = d := by simpa only [near, hkb, Bool.false_eq_true, if_false] using hd
    have hr1 : lt k r.hd.1 = true := lt_of hb (hkn _ (List.mem_append_right _ r.hd_mem)) (by simpa using hkb) (hr _ r.hd_mem)
    rw [← beh_find wl hd' hk, ls, List.find?_append, find_hd (t := r) hr1, Option.or_assoc]
    rfl
  ·rename_i hbd
   have hl2 : d < 200 := by omega
   have hp := sub_par hh hd hl2
   simp only [sub, if_neg hbd] at hp
   have hk' : Bits.bt k d = true := by rcases hk with c | c; omega; exact c.2
   rw [find_none, Option.none_or]
   intro e he
   have he2 := hp e he
   refine not_lt_of hl2 (fun i hi => (par_eq (by omega)).symm) hk' ?_
   have := par_ne (x := e.1) (y := k) (by omega)
   rw [he2, hk'] at this
   cases c : Bits.bt e.1 d
   ·rfl
   ·exact absurd c this
theorem sub_find {k : α} {d : Nat} (hl : d < 200) (hk : Bits.bt k d = false) : ∀ {t : Tr α}, t.wf → par (t.near k).hd.1 k = d → t.ls.find? (fun e => lt k e.1) = some (t.sub k d).hd
 | lf a x v, h, hd => by
  have hd : par x k = d := hd
  have : lt k x = true := lt_of hl (fun i hi => (par_eq (by omega)).symm) hk (by
   have := par_ne (x := x) (y := k) (by omega)
   rw [hd, hk] at this
   cases hb : Bits.bt x d
   ·exact absurd hb this
   ·rfl)
  simp [ls, this, sub, Tr.hd]
 | br a b l r, h, hd => by
  have hh := h
  have hn := near_mem k (br a b l r)
  obtain ⟨hb, hl', hr, hag, wl, wr⟩ := h
  by_cases hbd : b < d
  ·have hkn : ∀ e ∈ l.ls ++ r.ls, ∀ i, i < b → Bits.bt k i = Bits.bt e.1 i := fun e he i hi => by
    rw [hag e he _ hn i hi]; exact (par_eq (by omega)).symm
   simp only [sub, if_pos hbd]
   split
   ·rename_i hkb
    have hd' : par (r.near k).hd.1 k = d := by simpa only [near, hkb, if_true] using hd
    rw [ls, List.find?_append, find_none (l := l.ls), Option.none_or, sub_find hl hk wr hd']
    intro e he
    exact not_lt_of hb (hkn e (List.mem_append_left _ he)) hkb (hl' e he)
   ·rename_i hkb
    have hd' : par (l.near k).hd.1 k = d := by simpa only [near, hkb, Bool.false_eq_true, if_false] using hd
    rw [ls, List.find?_append, sub_find hl hk wl hd']
    rfl
  ·have hp := sub_par hh hd hl
   simp only [sub, if_neg hbd] at hp ⊢
   refine find_hd ?_
   have he2 := hp _ (hd_mem _)
   refine lt_of hl (fun i hi => (par_eq (by omega)).symm) hk ?_
   have := par_ne (x := (br a b l r).hd.1) (y := k) (by omega)
   rw [he2, hk] at this
   cases c : Bits.bt (br a b l r).hd.1 d
   ·exact absurd c this
   ·rfl
def path (k : α) (d : Nat) : Tr α → List (Tr α)
 | lf _ _ _ => []
 | br a b l r => if b < d then br a b l r :: (if Bits.bt k b then r.path k d else l.path k d) else []
def bits (k : α) (d : Nat) (t : Tr α) : List Nat := (t.path k d).map Tr.bit
end Tr

theorem up_eq {β : Type} {R : β → β → Prop} (irr : ∀ x, ¬ R x x) (asy : ∀ {x y}, R x y → ¬ R y x) : ∀ {l m : List β}, l.Pairwise R → m.Pairwise R → (∀ x, x ∈ l ↔ x ∈ m) → l = m
 | [], [], _, _, _ => rfl
 | [], y :: m, _, _, h => absurd ((h y).2 (List.mem_cons_self ..)) (by simp)
 | x :: l, [], _, _, h => absurd ((h x).1 (List.mem_cons_self ..)) (by simp)
 | x :: l, y :: m, h1, h2, h => by
  rw [List.pairwise_cons] at h1 h2
  have e : x = y := by
   rcases List.mem_cons.1 ((h x).1 (List.mem_cons_self ..)) with c | c
   ·exact c
   ·rcases List.mem_cons.1 ((h y).2 (List.mem_cons_self ..)) with c' | c'
    ·exact c'.symm
    ·exact absurd (h1.1 y c') (asy (h2.1 x c))
  subst e
  rw [up_eq irr asy h1.2 h2.2 fun z => ?_]
  have := h z
  simp only [List.mem_cons] at this
  constructor
  ·intro hz
   rcases this.1 (.inr hz) with rfl | c
   ·exact absurd (h1.1 z hz) (irr z)
   ·exact c
  ·intro hz
   rcases this.2 (.inr hz) with rfl | c
   ·exact absurd (h2.1 z hz) (irr z)
   ·exact c
def Up (l : List (α × Vl)) : Prop := l.Pairwise (fun e f => lt e.1 f.1 = true)
theorem Up.eq {l m : List (α × Vl)} (h : Up l) (k : Up m) (e : ∀ x, x ∈ l ↔ x ∈ m) : l = m :=
 up_eq (fun x c => by rw [lt_irr] at c; cases c) (fun c c' => by rw [lt_asym c] at c'; cases c') h k e
theorem Up.one {l : List (α × Vl)} (h : Up l) {k : α} {u v : Vl} (hu : (k, u) ∈ l) (hv : (k, v) ∈ l) : u = v := by
 induction l with
 | nil => cases hu
 | cons e l ih =>
  have h2 := List.pairwise_cons.1 h
  rcases List.mem_cons.1 hu with eu | hu
  ·rcases List.mem_cons.1 hv with ev | hv
   ·have := eu.trans ev.symm; injection this
   ·have := h2.1 _ hv; rw [← eu, lt_irr] at this; cases this
  ·rcases List.mem_cons.1 hv with ev | hv
   ·have := h2.1 _ hu; rw [← ev, lt_irr] at this; cases this
   ·exact ih h2.2 hu hv
def has (k : α) (l : List (α × Vl)) : Bool := l.any (fun e => decide (e.1 = k))
theorem has_iff {k : α} {l : List (α × Vl)} : has k l = true ↔ ∃ v, (k, v) ∈ l := by
 simp only [has, List.any_eq_true, decide_eq_true_eq]
 constructor
 ·rintro ⟨⟨x, v⟩, he, rfl⟩; exact ⟨v, he⟩
 ·rintro ⟨v, hv⟩; exact ⟨_, hv, rfl⟩
def get (k : α) (l : List (α × Vl)) : Option Vl := (l.find? (fun e => decide (e.1 = k))).map (·.2)
theorem get_some {k : α} {l : List (α × Vl)} (h : Up l) {v : Vl} (hv : (k, v) ∈ l) : get k l = some v := by
 unfold get
 cases hf : l.find? (fun e => decide (e.1 = k)) with
 | none =>
  rw [List.find?_eq_none] at hf
  exact absurd (decide_eq_true rfl) (hf _ hv)
 | some e =>
  have h1 := List.mem_of_find?_eq_some hf
  have h2 := List.find?_some hf
  obtain ⟨x, u⟩ := e
  simp only [decide_eq_true_eq] at h2
  subst h2
  rw [Option.map_some, h.one h1 hv]
theorem get_none {k : α} {l : List (α × Vl)} (h : has k l = false) : get k l = none := by
 unfold get
 rw [List.find?_eq_none.2]
 ·rfl
 ·intro e he
  simp only [decide_eq_true_eq]
  intro c
  have : has k l = true := has_iff.2 ⟨e.2, by rw [← c]; exact he⟩
  rw [h] at this; cases this
def put (k : α) (v : Vl) : List (α × Vl) → List (α × Vl)
 | [] => [(k, v)]
 | e :: l => if lt e.1 k then e :: put k v l else if e.1 = k then (k, v) :: l else (k, v) :: e :: l
theorem put_mem {k : α} {v : Vl} : ∀ {l : List (α × Vl)}, Up l → ∀ x, x ∈ put k v l ↔ x = (k, v) ∨ (x ∈ l ∧ x.1 ≠ k)
 | [], _, x => by simp [put]
 | e :: l, h, x => by
  have h2 := List.pairwise_cons.1 h
  unfold put
  split
  ·rename_i hl
   rw [List.mem_cons, put_mem h2.2, List.mem_cons]
   constructor
   ·rintro (rfl | rfl | ⟨c, c'⟩)
    ·exact .inr ⟨.inl rfl, lt_ne hl⟩
    ·exact .inl rfl
    ·exact .inr ⟨.inr c, c'⟩
   ·rintro (rfl | ⟨rfl | c, c'⟩)
    ·exact .inr (.inl rfl)
    ·exact .inl rfl
    ·exact .inr (.inr ⟨c, c'⟩)
  ·rename_i hl
   have hfar : ∀ y ∈ l, e.1 = k ∨ lt k e.1 = true → y.1 ≠ k := by
    intro y hy c c'
    have := h2.1 y hy
    rw [c'] at this
    rcases c with c | c
    ·rw [c, lt_irr] at this; cases this
    ·rw [lt_asym c] at this; cases this
   split
   ·rename_i he
    rw [List.mem_cons, List.mem_cons]
    constructor
    ·rintro (rfl | c)
     ·exact .inl rfl
     ·exact .inr ⟨.inr c, hfar x c (.inl he)⟩
    ·rintro (rfl | ⟨rfl | c, c'⟩)
     ·exact .inl rfl
     ·exact absurd he c'
     ·exact .inr c
   ·rename_i he
    have hk : lt k e.1 = true := lt_tot he (by simpa using hl)
    rw [List.mem_cons, List.mem_cons]
    constructor
    ·rintro (rfl | rfl | c)
     ·exact .inl rfl
     ·exact .inr ⟨.inl rfl, he⟩
     ·exact .inr ⟨.inr c, hfar x c (.inr hk)⟩
    ·rintro (rfl | ⟨rfl | c, c'⟩)
     ·exact .inl rfl
     ·exact .inr (.inl rfl)
     ·exact .inr (.inr c)
theorem put_up {k : α} {v : Vl} : ∀ {l : List (α × Vl)}, Up l → Up (put k v l)
 | [], _ => by simp [put, Up]
 | e :: l, h => by
  have h2 := List.pairwise_cons.1 h
  unfold put
  split
  ·rename_i hl
   refine List.pairwise_cons.2 ⟨fun x hx => ?_, put_up h2.2⟩
   rcases (put_mem h2.2 x).1 hx with rfl | ⟨c, _⟩
   ·exact hl
   ·exact h2.1 x c
  ·rename_i hl
   split
   ·rename_i he
    refine List.pairwise_cons.2 ⟨fun x hx => ?_, h2.2⟩
    have := h2.1 x hx
    rwa [he] at this
   ·rename_i he
    have hk : lt k e.1 = true := lt_tot he (by simpa using hl)
    refine List.pairwise_cons.2 ⟨fun x hx => ?_, h⟩
    rcases List.mem_cons.1 hx with rfl | hx
    ·exact hk
    ·exact lt_trans hk (h2.1 x hx)
def del (k : α) (l : List (α × Vl)) : List (α × Vl) := l.filter (fun e => decide (e.1 ≠ k))
theorem del_not {k : α} {l : List (α × Vl)} (h : has k l = false) : del k l = l := by
 rw [del, List.filter_eq_self]
 intro e he
 simp only [decide_eq_true_eq]
 intro c
 have : has k l = true := has_iff.2 ⟨e.2, by rw [← c]; exact he⟩
 rw [h] at this; cases this
theorem put_new {k : α} {v : Vl} : ∀ {l : List (α × Vl)}, Up l → has k l = false → (put k v l).length = l.length + 1
 | [], _, _ => rfl
 | e :: l, h, hn => by
  have h2 := List.pairwise_cons.1 h
  simp only [has, List.any_cons, Bool.or_eq_false_iff, decide_eq_false_iff_not] at hn
  unfold put
  split
  ·simp only [List.length_cons, put_new h2.2 hn.2]
  ·rw [if_neg hn.1]; rfl
theorem put_old {k : α} {v : Vl} : ∀ {l : List (α × Vl)}, Up l → has k l = true → put k v l = l.map (fun e => if e.1 = k then (e.1, v) else e)
 | [], _, h => by simp [has] at h
 | e :: l, h, hn => by
  have h2 := List.pairwise_cons.1 h
  unfold put
  split
  ·rename_i hl
   have hne := lt_ne hl
   simp only [has, List.any_cons, Bool.or_eq_true, decide_eq_true_eq] at hn
   rw [List.map_cons, if_neg hne, put_old h2.2 (hn.resolve_left hne)]
  ·rename_i hl
   have hk : lt k e.1 = true → False := fun hk => by
    obtain ⟨v, hv⟩ := has_iff.1 hn
    rcases List.mem_cons.1 hv with rfl | hv
    ·rw [lt_irr] at hk; cases hk
    ·have := lt_asym (h2.1 _ hv); simp only [hk] at this; cases this
   have he : e.1 = k := Classical.byContradiction fun he => hk (lt_tot he (by simpa using hl))
   rw [if_pos he, List.map_cons, if_pos he, he]
   congr 1
   conv => lhs; rw [← List.map_id l]
   refine List.map_congr_left fun x hx => ?_
   rw [if_neg]; rfl
   intro c
   have := h2.1 x hx
   rw [he, c, lt_irr] at this; cases this
theorem del_len {k : α} : ∀ {l : List (α × Vl)}, Up l → has k l = true → (del k l).length + 1 = l.length
 | [], _, h => by simp [has] at h
 | e :: l, h, hn => by
  have h2 := List.pairwise_cons.1 h
  by_cases he : e.1 = k
  ·have : del k l = l := del_not (by
    cases c : has k l
    ·rfl
    ·obtain ⟨v, hv⟩ := has_iff.1 c
     have := h2.1 _ hv; rw [he, lt_irr] at this; cases this)
   have e2 : del k (e :: l) = del k l := by simp [del, he]
   rw [e2, this]; rfl
  ·simp only [has, List.any_cons, Bool.or_eq_true, decide_eq_true_eq] at hn
   have e2 : del k (e :: l) = e :: del k l := by simp [del, he]
   rw [e2, List.length_cons, List.length_cons, del_len h2.2 (hn.resolve_left he)]
def nxt (k : α) (l : List (α × Vl)) : Option α := (l.find? (fun e => lt k e.1)).map (·.1)
end Cr
end Go.Proofs.YtjlaffgbmcpldaaGreatDoor
set_option maxRecDepth 100000
namespace Go.Proofs.YtjlaffgbmcpldaaGreatDoor
namespace D
def kbt (x : Ky) (i : Nat) : Bool := (x.l.getD (i / 8) 0).testBit (7 - i % 8)
theorem byte_ext {a b : Nat} (ha : a < 256) (hb : b < 256) (h : ∀ k, k < 8 → a.testBit (7 - k) = b.testBit (7 - k)) : a = b := by
 refine Nat.eq_of_testBit_eq fun i => ?_
 by_cases hi : i < 8
 ·have := h (7 - i) (by omega)
  rwa [show 7 - (7 - i) = i by omega] at this
 ·have hp : 256 ≤ 2 ^ i := by
   calc 256 = 2 ^ 8 := rfl
    _ ≤ 2 ^ i := Nat.pow_le_pow_right (by omega) (by omega)
  rw [Nat.testBit_lt_two_pow (by omega), Nat.testBit_lt_two_pow (by omega)]
theorem kbt_at (x : Ky) (j k : Nat) (hk : k < 8) : kbt x (8 * j + k) = (x.l.getD j 0).testBit (7 - k) := by
 unfold kbt
 rw [show (8 * j + k) / 8 = j by omega, show (8 * j + k) % 8 = k by omega]
theorem byte_lt (x : Ky) (j : Nat) : x.l.getD j 0 < 256 := get_lt x.lt j
theorem bytes_eq {x y : Ky} (h : ∀ j, j < 25 → x.l.getD j 0 = y.l.getD j 0) : x = y := by
 refine Ky.eq (List.ext_getElem (by rw [x.len, y.len]) fun j h1 h2 => ?_)
 have := h j (by rw [x.len] at h1; exact h1)
 rwa [List.getD, List.getD, List.getElem?_eq_getElem h1, List.getElem?_eq_getElem h2] at this
instance : Cr.Bits Ky where
 bt := kbt
 ext x y h := bytes_eq fun j hj => byte_ext (byte_lt x j) (byte_lt y j) fun k hk => by
  have := h (8 * j + k) (by omega)
  rwa [kbt_at _ _ _ hk, kbt_at _ _ _ hk] at this
theorem bt_def (x : Ky) (i : Nat) : Cr.Bits.bt x i = kbt x i := rfl
theorem bits_of_bytes {x y : Ky} {j : Nat} (h : ∀ i, i < j → x.l.getD i 0 = y.l.getD i 0) : ∀ i, i < 8 * j → Cr.Bits.bt x i = Cr.Bits.bt y i := by
 intro i hi
 rw [bt_def, bt_def]
 unfold kbt
 rw [h (i / 8) (by omega)]
theorem bytes_of_bits {x y : Ky} {j : Nat} (h : ∀ i, i < 8 * j → Cr.Bits.bt x i = Cr.Bits.bt y i) : ∀ i, i < j → x.l.getD i 0 = y.l.getD i 0 := fun i hi =>
 byte_ext (byte_lt x i) (byte_lt y i) fun k hk => by
  have := h (8 * i + k) (by omega)
  rw [bt_def, bt_def, kbt_at _ _ _ hk, kbt_at _ _ _ hk] at this
  exact this
theorem len_xor : ∀ c : Fin 256, c.val ≠ 0 → 1 ≤ Lib.bitLen c.val ∧ Lib.bitLen c.val ≤ 8 ∧ c.val.testBit (Lib.bitLen c.val - 1) = true ∧ ∀ i : Fin 8, Lib.bitLen c.val ≤ i.val → c.val.testBit i.val = false := by decide +kernel
theorem xor_lt {a b : Nat} (ha : a < 256) (hb : b < 256) : a ^^^ b < 256 := Nat.xor_lt_two_pow (n := 8) ha hb
theorem par_byte {x y : Ky} {j : Nat} (hj : j < 25) (h : ∀ i, i < j → x.l.getD i 0 = y.l.getD i 0) (hn : x.l.getD j 0 ≠ y.l.getD j 0) :
  Cr.par x y = 8 * j + (8 - Lib.bitLen (x.l.getD j 0 ^^^ y.l.getD j 0)) ∧ 1 ≤ Lib.bitLen (x.l.getD j 0 ^^^ y.l.getD j 0) ∧ Lib.bitLen (x.l.getD j 0 ^^^ y.l.getD j 0) ≤ 8 := by
 have hlt := xor_lt (byte_lt x j) (byte_lt y j)
 have hne : x.l.getD j 0 ^^^ y.l.getD j 0 ≠ 0 := fun e => hn (by
  have := congrArg (· ^^^ y.l.getD j 0) e
  simpa [Nat.xor_assoc] using this)
 obtain ⟨h1, h8, ht, hf⟩ := len_xor ⟨_, hlt⟩ hne
 simp only at h1 h8 ht hf
 obtain ⟨L, hL⟩ : ∃ L, Lib.bitLen (x.l.getD j 0 ^^^ y.l.getD j 0) = L := ⟨_, rfl⟩
 rw [hL] at h1 h8 ht hf ⊢
 refine ⟨Cr.par_of (by omega) (fun i hi => ?_) ?_, h1, h8⟩
 ·by_cases c : i < 8 * j
  ·exact bits_of_bytes h i c
  ·obtain ⟨k, rfl⟩ : ∃ k, i = 8 * j + k := ⟨i - 8 * j, by omega⟩
   have hk : k < 8 - L := by omega
   rw [bt_def, bt_def, kbt_at _ _ _ (by omega), kbt_at _ _ _ (by omega)]
   have := hf ⟨7 - k, by omega⟩ (show L ≤ 7 - k by omega)
   simp only [Nat.testBit_xor] at this
   revert this
   cases (x.l.getD j 0).testBit (7 - k) <;> cases (y.l.getD j 0).testBit (7 - k) <;> decide
 ·rw [bt_def, bt_def, kbt_at _ _ _ (by omega), kbt_at _ _ _ (by omega), show 7 - (8 - L) = L - 1 by omega]
  rw [Nat.testBit_xor] at ht
  intro e
  rw [e] at ht
  simp at ht
theorem has_par {p x : Ky} {d : Int} (h0 : 0 ≤ d) (h5 : d ≤ 5) : has p d x = decide (8 * ends d ≤ Cr.par x p) := by
 rw [has_take h0 h5, decide_eq_decide]
 have he := ends_le d
 constructor
 ·intro h
  refine Cr.par_ge (by omega) (bits_of_bytes fun i hi => ?_)
  have := congrArg (fun l => l.getD i 0) h
  simpa [List.getD, List.getElem?_take, hi] using this.symm
 ·intro h
  have hb := bytes_of_bits (x := x) (y := p) (j := ends d) (fun i hi => Cr.par_eq (by omega))
  refine List.ext_getElem (by rw [List.length_take, List.length_take, p.len, x.len]) fun j h1 h2 => ?_
  rw [List.length_take, p.len] at h1
  have := hb j (by omega)
  rw [List.getD, List.getD, List.getElem?_eq_getElem (by rw [x.len]; omega), List.getElem?_eq_getElem (by rw [p.len]; omega)] at this
  simp only [List.getElem_take]
  exact this.symm
end D
end Go.Proofs.YtjlaffgbmcpldaaGreatDoor
