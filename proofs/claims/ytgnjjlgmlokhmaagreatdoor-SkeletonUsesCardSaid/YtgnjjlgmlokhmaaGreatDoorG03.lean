/-
  
-/
import Derived.Test.YtgnjjlgmlokhmaaGreatDoorG00
set_option linter.unusedVariables false
set_option linter.unusedSimpArgs false
set_option maxRecDepth 100000
namespace Go.Proofs.YtgnjjlgmlokhmaaGreatDoor.Nm
namespace D
open Go.Proofs.YtgnjjlgmlokhmaaGreatDoor.D (ns sb ns_len ns_lt sb_ns ns_sb sb_len ns_inj)

def cmp : List Nat -> List Nat -> Int
 | [], [] => 0
 | [], _ :: _ => -1
 | _ :: _, [] => 1
 | x :: a, y :: b => if x = y then cmp a b else if x < y then -1 else 1
theorem cmp_self : ∀ a, cmp a a = 0
 | [] => rfl
 | x :: a => by rw [cmp, if_pos rfl, cmp_self a]
theorem cmp_neg : ∀ a b, cmp b a = - cmp a b
 | [], [] => rfl
 | [], _ :: _ => rfl
 | _ :: _, [] => rfl
 | x :: a, y :: b => by
  rw [cmp, cmp]
  by_cases h : x = y
  ·subst h; rw [if_pos rfl, if_pos rfl, cmp_neg a b]
  ·rw [if_neg (fun e => h e.symm), if_neg h]
   by_cases h2 : x < y
   ·rw [if_neg (by omega), if_pos h2]; rfl
   ·rw [if_pos (by omega), if_neg h2]
theorem cmp_in : ∀ a b, cmp a b = -1 ∨ cmp a b = 0 ∨ cmp a b = 1
 | [], [] => by simp [cmp]
 | [], _ :: _ => by simp [cmp]
 | _ :: _, [] => by simp [cmp]
 | x :: a, y :: b => by
  rw [cmp]
  split
  ·exact cmp_in a b
  ·split <;> simp
theorem cmp_zero : ∀ a b, cmp a b = 0 ↔ a = b
 | [], [] => by simp [cmp]
 | [], _ :: _ => by simp [cmp]
 | _ :: _, [] => by simp [cmp]
 | x :: a, y :: b => by
  rw [cmp]
  split
  ·rename_i h; subst h; rw [cmp_zero a b]; simp
  ·rename_i h
   split <;> simp [h]
theorem cmp_trans : ∀ a b c, cmp a b = -1 -> cmp b c = -1 -> cmp a c = -1
 | [], [], _ => by simp [cmp]
 | [], _ :: _, [] => by simp [cmp]
 | [], _ :: _, _ :: _ => by simp [cmp]
 | _ :: _, [], _ => by simp [cmp]
 | _ :: _, _ :: _, [] => by simp [cmp]
 | x :: a, y :: b, z :: c => by
  simp only [cmp]
  intro h1 h2
  by_cases e1 : x = y
  ·subst e1
   rw [if_pos rfl] at h1
   by_cases e2 : x = z
   ·subst e2
    rw [if_pos rfl] at h2 ⊢
    exact cmp_trans a b c h1 h2
   ·rw [if_neg e2] at h2 ⊢
    exact h2
  ·rw [if_neg e1] at h1
   have hxy : x < y := by
    by_cases h : x < y
    ·exact h
    ·rw [if_neg h] at h1; simp at h1
   by_cases e2 : y = z
   ·subst e2
    rw [if_neg e1]; exact h1
   ·rw [if_neg e2] at h2
    have hyz : y < z := by
     by_cases h : y < z
     ·exact h
     ·rw [if_neg h] at h2; simp at h2
    rw [if_neg (by omega), if_pos (by omega)]

def letB (c : Nat) : Bool := decide (97 <= c) && decide (c <= 122)
def mayB (c : Nat) : Bool := letB c || (decide (48 <= c) && decide (c <= 57)) || decide (c = 45) || decide (c = 95) || decide (c = 46)
def isB (t : List Nat) : Bool := decide (1 <= t.length) && decide (t.length <= 12) && letB (t.getD 0 0) && t.all mayB
theorem may_bd {c : Nat} (h : mayB c = true) : 1 <= c ∧ c <= 122 := by
 simp [mayB, letB] at h
 omega
theorem isB_iff {t : List Nat} : isB t = true ↔ 1 <= t.length ∧ t.length <= 12 ∧ letB (t.getD 0 0) = true ∧ ∀ c ∈ t, mayB c = true := by
 simp [isB, and_assoc]

structure Nm where
 l : List Nat
 len : l.length = 12
 lt : ∀ b ∈ l, b < 256
theorem Nm.eq {x y : Nm} (h : x.l = y.l) : x = y := by
 cases x; cases y; simp only at h; subst h; rfl
theorem Nm.eq_iff {x y : Nm} : x = y ↔ x.l = y.l := ⟨fun h => by rw [h], Nm.eq⟩
instance : DecidableEq Nm := fun x y => decidable_of_iff (x.l = y.l) Nm.eq_iff.symm
def zero : Nm := ⟨List.replicate 12 0, by simp, by intro b hb; have := (List.mem_replicate.1 hb).2; omega⟩
instance : Inhabited Nm := ⟨zero⟩

def padl (t : List Nat) (k : Nat) : List Nat := (t.take k ++ List.replicate 12 0).take 12
theorem padl_len (t : List Nat) (k : Nat) : (padl t k).length = 12 := by simp [padl]
theorem padl_lt {t : List Nat} (h : ∀ b ∈ t, b < 256) (k : Nat) : ∀ b ∈ padl t k, b < 256 := by
 intro b hb
 rcases List.mem_append.1 (List.mem_of_mem_take hb) with hb | hb
 ·exact h b (List.mem_of_mem_take hb)
 ·have := (List.mem_replicate.1 hb).2; omega
theorem padl_zero (t : List Nat) : padl t 0 = List.replicate 12 0 := by simp [padl]
theorem padl_next {t : List Nat} {k b : Nat} (hb : t[k]? = some b) (hk : k < 12) : (padl t k).set k b = padl t (k + 1) := by
 obtain ⟨hl, he⟩ := List.getElem?_eq_some_iff.1 hb
 apply List.ext_getElem?
 intro i
 rw [List.getElem?_set, padl_len]
 by_cases hik : k = i
 ·subst hik
  rw [if_pos rfl, if_pos hk]
  simp only [padl]
  rw [List.getElem?_take_of_lt hk, List.getElem?_append_left (by simp; omega), List.getElem?_take_of_lt (by omega), hb]
 ·rw [if_neg hik]
  simp only [padl]
  by_cases hi : i < 12
  ·rw [List.getElem?_take_of_lt hi, List.getElem?_take_of_lt hi]
   by_cases h2 : i < k
   ·rw [List.getElem?_append_left (by simp; omega), List.getElem?_append_left (by simp; omega), List.getElem?_take_of_lt h2, List.getElem?_take_of_lt (by omega)]
   ·rw [List.getElem?_append_right (by simp; omega), List.getElem?_append_right (by simp; omega)]
    simp only [List.length_take, List.getElem?_replicate]
    rw [if_pos (by omega), if_pos (by omega)]
  ·rw [List.getElem?_take_eq_none (by omega), List.getElem?_take_eq_none (by omega)]
theorem padl_all {t : List Nat} (k : Nat) (h : t.length <= k) : padl t k = padl t t.length := by simp [padl, List.take_of_length_le h]
theorem padl_12 (t : List Nat) (k : Nat) (h : 12 <= k) : padl t k = padl t 12 := by
 by_cases ht : t.length <= 12
 ·rw [padl_all k (by omega), padl_all 12 ht]
 ·simp only [padl]
  rw [List.take_append_of_le_length (by simp; omega), List.take_append_of_le_length (by simp; omega), List.take_take, List.take_take]
  congr 1; omega
def padN (t : List Nat) (h : ∀ b ∈ t, b < 256) : Nm := ⟨padl t 12, padl_len t 12, padl_lt h 12⟩
def pad (s : ByteArray) : Nm := padN (ns s) (ns_lt s)
def hd (l : List Nat) : List Nat := l.takeWhile (fun b => decide (b ≠ 0))
theorem hd_le (l : List Nat) : (hd l).length <= l.length := (List.takeWhile_sublist _).length_le
theorem hd_mem {l : List Nat} {b : Nat} (h : b ∈ hd l) : b ∈ l := (List.takeWhile_sublist _).subset h
theorem hd_take {l : List Nat} {k : Nat} (h : ∀ b ∈ l.take k, b ≠ 0) (h0 : l[k]? = some 0 ∨ l.length <= k) : hd l = l.take k := by
 induction l generalizing k with
 | nil => simp [hd]
 | cons a l ih =>
  cases k with
  | zero =>
   rcases h0 with h0 | h0
   ·simp at h0
    subst h0
    simp [hd]
   ·simp at h0
  | succ k =>
   have ha : a ≠ 0 := h a (by simp)
   have := ih (k := k) (fun b hb => h b (by simp [hb])) (by rcases h0 with h0 | h0; exact .inl (by simpa using h0); exact .inr (by simpa using h0))
   simp only [hd] at this ⊢
   rw [List.takeWhile_cons_of_pos (by simpa using ha), this]; rfl
def hdp (x : Nm) : Nm := padN (hd x.l) fun b hb => x.lt b (hd_mem hb)
def right (x : Nm) : Bool := isB (hd x.l) && decide (hdp x = x)
def txt (x : Nm) : List Nat := if right x then hd x.l else []
theorem txt_no {x : Nm} (h : right x = false) : txt x = [] := by simp [txt, h]
theorem txt_yes {x : Nm} (h : right x = true) : txt x = hd x.l := by simp [txt, h]
theorem hd_padl {t : List Nat} (h : isB t = true) : hd (padl t 12) = t := by
 obtain ⟨h1, h2, _, h4⟩ := isB_iff.1 h
 have e : padl t 12 = t ++ List.replicate (12 - t.length) 0 := by
  simp only [padl]
  rw [List.take_of_length_le h2, List.take_append, List.take_of_length_le h2, List.take_replicate]
  congr 2; omega
 have ht : (padl t 12).take t.length = t := by rw [e, List.take_left]
 rw [hd_take (k := t.length), ht]
 ·rw [ht]
  intro b hb
  have := may_bd (h4 b hb)
  omega
 ·by_cases h12 : t.length = 12
  ·right; rw [padl_len]; omega
  ·left
   rw [e, List.getElem?_append_right (Nat.le_refl _), Nat.sub_self, List.getElem?_replicate, if_pos (by omega)]
theorem pad_right {t : List Nat} (h : isB t = true) (hb : ∀ b ∈ t, b < 256) : right (padN t hb) = true := by
 have := hd_padl h
 have e : hdp (padN t hb) = padN t hb := Nm.eq (by show padl (hd (padl t 12)) 12 = padl t 12; rw [this])
 simp only [right, e, decide_true, Bool.and_true]
 show isB (hd (padl t 12)) = true
 rw [this, h]
theorem pad_txt {t : List Nat} (h : isB t = true) (hb : ∀ b ∈ t, b < 256) : txt (padN t hb) = t := by
 rw [txt_yes (pad_right h hb)]
 exact hd_padl h
theorem pad_inj {t u : List Nat} (h : isB t = true) (h' : isB u = true) (e : padl t 12 = padl u 12) : t = u := by
 rw [<- hd_padl h, e, hd_padl h']

def less (x y : Nm) : Bool := decide (cmp x.l y.l = -1)
theorem cmp_zeros : ∀ (a b : List Nat) (i j : Nat), (∀ c ∈ a, c ≠ 0) -> (∀ c ∈ b, c ≠ 0) -> a.length + i = b.length + j -> cmp (a ++ List.replicate i 0) (b ++ List.replicate j 0) = cmp a b
 | [], [], i, j, _, _, h => by
  have : i = j := by simpa using h
  subst this
  rw [List.nil_append, cmp_self]; rfl
 | [], y :: b, i, j, _, hb, h => by
  obtain ⟨m, rfl⟩ : ∃ m, i = m + 1 := ⟨i - 1, by simp at h; omega⟩
  have := hb y (by simp)
  rw [List.replicate_succ, List.nil_append, List.cons_append]
  simp only [cmp]
  rw [if_neg (fun e => this e.symm), if_pos (by omega)]
 | x :: a, [], i, j, ha, _, h => by
  obtain ⟨m, rfl⟩ : ∃ m, j = m + 1 := ⟨j - 1, by simp at h; omega⟩
  have := ha x (by simp)
  rw [List.replicate_succ, List.nil_append, List.cons_append]
  simp only [cmp]
  rw [if_neg this, if_neg (by omega)]
 | x :: a, y :: b, i, j, ha, hb, h => by
  rw [List.cons_append, List.cons_append, cmp, cmp, cmp_zeros a b i j (fun c hc => ha c (by simp [hc])) (fun c hc => hb c (by simp [hc])) (by simp at h; omega)]
theorem cmp_pad {t u : List Nat} (h : isB t = true) (h' : isB u = true) : cmp (padl t 12) (padl u 12) = cmp t u := by
 obtain ⟨_, h2, _, h4⟩ := isB_iff.1 h
 obtain ⟨_, k2, _, k4⟩ := isB_iff.1 h'
 have e : ∀ t : List Nat, t.length <= 12 -> padl t 12 = t ++ List.replicate (12 - t.length) 0 := by
  intro t h2
  simp only [padl]
  rw [List.take_of_length_le h2, List.take_append, List.take_of_length_le h2, List.take_replicate]
  congr 2; omega
 rw [e t h2, e u k2]
 exact cmp_zeros _ _ _ _ (fun c hc => by have := may_bd (h4 c hc); omega) (fun c hc => by have := may_bd (k4 c hc); omega) (by omega)

def ins (l : List Nm) (n : Nm) : List Nm := l.takeWhile (fun y => !less n y) ++ n :: l.dropWhile (fun y => !less n y)
theorem ins_perm (l : List Nm) (n : Nm) : (ins l n).Perm (n :: l) := by
 have := List.takeWhile_append_dropWhile (p := fun y => !less n y) (l := l)
 unfold ins
 exact List.perm_middle.trans (by rw [this])
theorem ins_len (l : List Nm) (n : Nm) : (ins l n).length = l.length + 1 := (ins_perm l n).length_eq.trans (by simp)
def cnt (l : List Nm) (n : Nm) : Nat := l.countP (fun x => decide (x = n))
def wo (l : List Nm) (n : Nm) : List Nm := l.filter fun x => decide (x ≠ n)
theorem ins_nodup {l : List Nm} {n : Nm} (h : l.Nodup) (hn : n ∉ l) : (ins l n).Nodup := (ins_perm l n).nodup_iff.2 (List.nodup_cons.2 ⟨hn, h⟩)
def kinds (l : List Nm) (k : Nat) : Nat := (List.range k).countP fun i => decide (i = 0) || decide (l[i]? ≠ l[i - 1]?)
end D
end Go.Proofs.YtgnjjlgmlokhmaaGreatDoor.Nm
namespace Go.Proofs.YtgnjjlgmlokhmaaGreatDoor
namespace D
inductive Nd where
 | mk (k : Nat) (t n : List Nat) (ws : List (List Nat)) (ks : List (List Nd))
def Nd.k : Nd -> Nat
 | .mk k _ _ _ _ => k
def Nd.t : Nd -> List Nat
 | .mk _ t _ _ _ => t
def Nd.n : Nd -> List Nat
 | .mk _ _ n _ _ => n
def Nd.ws : Nd -> List (List Nat)
 | .mk _ _ _ ws _ => ws
def Nd.ks : Nd -> List (List Nd)
 | .mk _ _ _ _ ks => ks
def Nd.zero : Nd := .mk 0 [] [] [] []
instance : Inhabited Nd := ⟨Nd.zero⟩
structure Ot where
 l : List Nd
 a : Nat
 e : Nat
def er_ (a e : Nat) : Ot := ⟨[], a, e⟩
def wdB (c : Nat) : Bool := decide (97 <= c ∧ c <= 122) || decide (48 <= c ∧ c <= 57) || c == 45 || c == 95 || c == 46
def plB (w : Bool) (c : Nat) : Bool := decide (32 <= c) && c != 127 && c != 123 && c != 125 && (c != 35 || !w)
def far (p : Nat -> Bool) (l : List Nat) (i : Nat) : Nat := i + ((l.drop i).takeWhile p).length
def sub (l : List Nat) (i k : Nat) : List Nat := (l.take k).drop i
theorem far_ge (p : Nat -> Bool) (l : List Nat) (i : Nat) : i <= far p l i := Nat.le_add_right _ _
theorem far_le {p : Nat -> Bool} {l : List Nat} {i : Nat} (h : i <= l.length) : far p l i <= l.length := by
 unfold far
 have := (List.takeWhile_sublist p (l := l.drop i)).length_le
 rw [List.length_drop] at this
 omega
theorem far_step {p : Nat -> Bool} {l : List Nat} {i c : Nat} (h : l[i]? = some c) (hp : p c = true) : far p l i = far p l (i + 1) := by
 unfold far
 have hi := (List.getElem?_eq_some_iff.1 h).1
 rw [List.drop_eq_getElem_cons hi, (List.getElem?_eq_some_iff.1 h).2, List.takeWhile_cons_of_pos hp, List.length_cons]
 omega
theorem far_stop {p : Nat -> Bool} {l : List Nat} {i c : Nat} (h : l[i]? = some c) (hp : p c = false) : far p l i = i := by
 unfold far
 have hi := (List.getElem?_eq_some_iff.1 h).1
 rw [List.drop_eq_getElem_cons hi, (List.getElem?_eq_some_iff.1 h).2, List.takeWhile_cons_of_neg (by simp [hp])]
 rfl
theorem far_end {p : Nat -> Bool} {l : List Nat} {i : Nat} (h : l.length <= i) : far p l i = i := by
 unfold far
 rw [List.drop_of_length_le h]
 rfl
theorem far_at {p : Nat -> Bool} : ∀ (m : Nat) {l : List Nat} {i c : Nat}, l.length - i <= m -> l[far p l i]? = some c -> p c = false
 | 0, l, i, c, hm, h => by
  rw [far_end (by omega)] at h
  have := (List.getElem?_eq_some_iff.1 h).1
  omega
 | m + 1, l, i, c, hm, h => by
  by_cases hi : i < l.length
  ·cases hp : p l[i]
   ·have e : l[i]? = some l[i] := List.getElem?_eq_getElem hi
    rw [far_stop e hp, e] at h
    injection h with h
    rw [<- h]; exact hp
   ·rw [far_step (List.getElem?_eq_getElem hi) hp] at h
    exact far_at m (by omega) h
  ·rw [far_end (by omega)] at h
   have := (List.getElem?_eq_some_iff.1 h).1
   omega
def numT : List Nat := [110, 117, 109, 98, 101, 114]
def pluT : List Nat := [112, 108, 117, 114, 97, 108]
def selT : List Nat := [115, 101, 108, 101, 99, 116]
def othT : List Nat := [111, 116, 104, 101, 114]
def catW : List (List Nat) := [[122, 101, 114, 111], [111, 110, 101], [116, 119, 111], [102, 101, 119], [109, 97, 110, 121], [111, 116, 104, 101, 114]]
def kndT (t : List Nat) : Nat := if t = numT then 2 else if t = pluT then 3 else if t = selT then 4 else 0
def lgl (k : Nat) (t : List Nat) (ws : List (List Nat)) : Nat :=
 if (k = 3 ∧ t ∉ catW) ∨ (k = 4 ∧ Nm.D.isB t = false) then 15 else if t ∈ ws then 8 else 0
def cas (l : List Nat) (k : Nat) (n : List Nat) (m : Nat -> Ot) : Nat -> Nat -> List (List Nat) -> List (List Nd) -> Ot
 | 0, i, _, _ => er_ i 3
 | f + 1, i, ws, ks =>
  if far wdB l i = i then (if l[i]? ≠ some 125 then er_ i 3 else if othT ∉ ws then er_ i 13 else ⟨[.mk k [] n ws ks], i + 1, 0⟩)
  else if lgl k (sub l i (far wdB l i)) ws ≠ 0 then er_ i (lgl k (sub l i (far wdB l i)) ws)
  else if l[far wdB l i]? ≠ some 123 then er_ (far wdB l i) 3
  else if (m (far wdB l i + 1)).e ≠ 0 then m (far wdB l i + 1)
  else if l[(m (far wdB l i + 1)).a]? ≠ some 125 then er_ (m (far wdB l i + 1)).a 3
  else cas l k n m f (far (· == 32) l ((m (far wdB l i + 1)).a + 1)) (ws ++ [sub l i (far wdB l i)]) (ks ++ [(m (far wdB l i + 1)).l])
def plc (l : List Nat) (m : Bool -> Nat -> Ot) (deep w : Bool) (i : Nat) : Ot :=
 let k := far wdB l i
 if k = i then er_ i 3
 else if Nm.D.isB (sub l i k) = false then er_ i 15
 else if l[k]? = some 125 then ⟨[.mk 1 [] (sub l i k) [] []], k + 1, 0⟩
 else if l[k]? ≠ some 44 then er_ k 3
 else
  let j := far (· == 32) l (k + 1)
  let q := far wdB l j
  if q = j then er_ j 3
  else if kndT (sub l j q) = 0 then er_ j 16
  else if kndT (sub l j q) = 2 then (if l[q]? ≠ some 125 then er_ q 3 else ⟨[.mk 2 [] (sub l i k) [] []], q + 1, 0⟩)
  else if deep then er_ j 19
  else if l[q]? ≠ some 44 then er_ q 3
  else cas l (kndT (sub l j q)) (sub l i k) (m (w || kndT (sub l j q) == 3)) (l.length + 1) (far (· == 32) l (q + 1)) [] []
def mes (l : List Nat) (w : Bool) (p : Nat -> Ot) : Nat -> Nat -> List Nd -> Ot
 | 0, i, acc => ⟨acc, i, 0⟩
 | f + 1, i, acc =>
  let k := far (plB w) l i
  let acc' := if i < k then acc ++ [.mk 0 (sub l i k) [] [] []] else acc
  if l[k]? = some 35 then mes l w p f (k + 1) (acc' ++ [.mk 5 [] [] [] []])
  else if l[k]? ≠ some 123 then ⟨acc', k, 0⟩
  else if (p (k + 1)).e ≠ 0 then p (k + 1)
  else mes l w p f (p (k + 1)).a (acc' ++ [(p (k + 1)).l.headD .zero])
def msg (l : List Nat) : Nat -> Bool -> Nat -> Ot
 | 0, w, i => mes l w (plc l (fun _ i => er_ i 19) true w) (l.length + 1) i []
 | r + 1, w, i => mes l w (plc l (msg l r) false w) (l.length + 1) i []
def rdM (l : List Nat) : Ot :=
 if 60 < l.length then er_ 0 2
 else
  let o := msg l 3 false 0
  if o.e ≠ 0 then er_ o.a o.e else if o.a < l.length then er_ o.a 3 else ⟨o.l, 0, 0⟩
end D
end Go.Proofs.YtgnjjlgmlokhmaaGreatDoor
namespace Go.Proofs.YtgnjjlgmlokhmaaGreatDoor
namespace D
def numP : List Nat := [44, 32, 110, 117, 109, 98, 101, 114, 125]
def pluP : List Nat := [44, 32, 112, 108, 117, 114, 97, 108, 44]
def selP : List Nat := [44, 32, 115, 101, 108, 101, 99, 116, 44]
mutual
def prN : Nd -> List Nat
 | .mk k t n ws ks =>
  if k = 0 then t else if k = 5 then [35] else if k = 1 then 123 :: (n ++ [125]) else if k = 2 then 123 :: (n ++ numP)
  else 123 :: (n ++ ((if k = 4 then selP else pluP) ++ (prC ws ks ++ [125])))
def prC : List (List Nat) -> List (List Nd) -> List Nat
 | w :: ws, l :: ks => 32 :: (w ++ 123 :: (prL l ++ 125 :: prC ws ks))
 | [], _ => []
 | _, [] => []
def prL : List Nd -> List Nat
 | [] => []
 | x :: r => prN x ++ prL r
end
theorem prL_app : ∀ (l k : List Nd), prL (l ++ k) = prL l ++ prL k
 | [], k => by simp [prL]
 | x :: l, k => by simp [prL, prL_app l k]
def okWd (k : Nat) : List (List Nat) -> List (List Nat) -> Prop
 | _, [] => True
 | a, w :: ws => w ≠ [] ∧ (∀ c ∈ w, wdB c = true) ∧ lgl k w a = 0 ∧ okWd k (a ++ [w]) ws
def okNd (ch : Bool) (kids : Bool -> List Nd -> Prop) (w : Bool) (x : Nd) : Prop :=
 (x.k = 0 ∧ x.n = [] ∧ x.ws = [] ∧ x.ks = [] ∧ x.t ≠ [] ∧ ∀ c ∈ x.t, plB w c = true) ∨
 (x = .mk 5 [] [] [] [] ∧ w = true) ∨
 ((x.k = 1 ∨ x.k = 2) ∧ x.t = [] ∧ x.ws = [] ∧ x.ks = [] ∧ Nm.D.isB x.n = true) ∨
 ((x.k = 3 ∨ x.k = 4) ∧ ch = true ∧ x.t = [] ∧ Nm.D.isB x.n = true ∧ x.ws.length = x.ks.length ∧ othT ∈ x.ws ∧ okWd x.k [] x.ws ∧ ∀ l ∈ x.ks, kids (w || x.k == 3) l)
def okLs (N : Nd -> Prop) : Bool -> List Nd -> Prop
 | _, [] => True
 | pt, x :: r => N x ∧ (pt = true -> x.k ≠ 0) ∧ okLs N (x.k == 0) r
def Rt : Nat -> Bool -> List Nd -> Prop
 | 0, w, l => okLs (okNd false (fun _ _ => False) w) false l
 | r + 1, w, l => okLs (okNd true (Rt r) w) false l
def lstT (pt : Bool) (l : List Nd) : Bool := match l.getLast? with
 | none => pt
 | some y => y.k == 0
theorem okLs_snoc {N : Nd -> Prop} : ∀ {pt : Bool} {l : List Nd} {x : Nd}, okLs N pt l -> N x -> (lstT pt l = true -> x.k ≠ 0) -> okLs N pt (l ++ [x])
 | pt, [], x, _, hx, h => ⟨hx, h, trivial⟩
 | pt, y :: l, x, h, hx, hl => by
  refine ⟨h.1, h.2.1, okLs_snoc h.2.2 hx fun e => hl ?_⟩
  cases l with
  | nil => exact e
  | cons z l => exact e
theorem okWd_snoc {k : Nat} : ∀ {ws a : List (List Nat)} {w : List Nat}, okWd k a ws -> w ≠ [] -> (∀ c ∈ w, wdB c = true) -> lgl k w (a ++ ws) = 0 -> okWd k a (ws ++ [w])
 | [], a, w, _, h1, h2, h3 => ⟨h1, h2, by simpa using h3, trivial⟩
 | v :: ws, a, w, h, h1, h2, h3 => ⟨h.1, h.2.1, h.2.2.1, okWd_snoc h.2.2.2 h1 h2 (by simpa using h3)⟩
theorem sub_ne {l : List Nat} {i k : Nat} (h : i < k) (hk : k <= l.length) : sub l i k ≠ [] := by
 intro e
 have := congrArg List.length e
 simp [sub] at this
 omega
theorem far_all {p : Nat -> Bool} {l : List Nat} {i : Nat} : ∀ c ∈ sub l i (far p l i), p c = true := by
 intro c hc
 have e : sub l i (far p l i) = (l.drop i).takeWhile p := by
  unfold sub far
  rw [List.drop_take, Nat.add_sub_cancel_left]
  exact (List.prefix_iff_eq_take.1 (List.takeWhile_prefix p)).symm
 rw [e] at hc
 exact List.all_eq_true.1 (List.all_takeWhile (l := l.drop i) (p := p)) c hc
theorem plB_sign {w : Bool} (h : plB w 35 = false) : w = true := by cases w <;> simp [plB] at h ⊢
def Good (P : List Nd -> Prop) (L i : Nat) (o : Ot) : Prop := o.e = 0 -> P o.l ∧ i <= o.a ∧ o.a <= L
theorem cas_good {l : List Nat} {k : Nat} {n : List Nat} {m : Nat -> Ot} {P : List Nd -> Prop} {N : Nd -> Prop} (hm : ∀ i, i <= l.length -> Good P l.length i (m i)) :
  ∀ (f i : Nat) (ws : List (List Nat)) (ks : List (List Nd)), i <= l.length -> ws.length = ks.length -> okWd k [] ws -> (∀ q ∈ ks, P q) ->
   (∀ ws ks, ws.length = ks.length -> othT ∈ ws -> okWd k [] ws -> (∀ q ∈ ks, P q) -> N (.mk k [] n ws ks)) ->
   (cas l k n m f i ws ks).e = 0 -> ∃ x, (cas l k n m f i ws ks).l = [x] ∧ N x ∧ x.k = k ∧ i < (cas l k n m f i ws ks).a ∧ (cas l k n m f i ws ks).a <= l.length
 | 0, i, ws, ks, _, _, _, _, _, h => by simp [cas, er_] at h
 | f + 1, i, ws, ks, hi, hl, hw, hk, hN, h => by
  rw [cas] at h ⊢
  split at h
  ·rename_i h0
   rw [if_pos h0]
   split at h
   ·simp [er_] at h
   ·rename_i h1
    rw [if_neg h1]
    split at h
    ·simp [er_] at h
    ·rename_i h2
     rw [if_neg h2]
     have h1' : l[i]? = some 125 := by simpa using h1
     have := (List.getElem?_eq_some_iff.1 h1').1
     exact ⟨_, rfl, hN ws ks hl (by simpa using h2) hw hk, rfl, Nat.lt_succ_self i, this⟩
  ·rename_i h0
   rw [if_neg h0]
   split at h
   ·rename_i h1
    simp [er_] at h
    exact absurd h h1
   ·rename_i h1
    rw [if_neg h1]
    split at h
    ·simp [er_] at h
    ·rename_i h2
     rw [if_neg h2]
     have h2' : l[far wdB l i]? = some 123 := by simpa using h2
     have hf := (List.getElem?_eq_some_iff.1 h2').1
     split at h
     ·rename_i h3
      exact absurd h h3
     ·rename_i h3
      rw [if_neg h3]
      obtain ⟨g1, g2, g3⟩ := hm (far wdB l i + 1) hf (by simpa using h3)
      split at h
      ·simp [er_] at h
      ·rename_i h4
       rw [if_neg h4]
       have h4' : l[(m (far wdB l i + 1)).a]? = some 125 := by simpa using h4
       have ha := (List.getElem?_eq_some_iff.1 h4').1
       have hge := far_ge wdB l i
       have hlt : i < far wdB l i := by omega
       obtain ⟨x, e1, e2, e3, e4, e5⟩ := cas_good hm f (far (· == 32) l ((m (far wdB l i + 1)).a + 1)) (ws ++ [sub l i (far wdB l i)]) (ks ++ [(m (far wdB l i + 1)).l]) (far_le (by omega)) (by simp [hl])
        (okWd_snoc hw (sub_ne hlt (far_le hi)) far_all (by simpa using h1)) (fun q hq => by
         rcases List.mem_append.1 hq with hq | hq
         ·exact hk q hq
         ·simp at hq; subst hq; exact g1) hN h
       refine ⟨x, e1, e2, e3, ?_, e5⟩
       have := far_ge (· == 32) l ((m (far wdB l i + 1)).a + 1)
       omega
def GoodP (N : Nd -> Prop) (L i : Nat) (o : Ot) : Prop := o.e = 0 -> ∃ x, o.l = [x] ∧ N x ∧ x.k ≠ 0 ∧ i < o.a ∧ o.a <= L
theorem knd_cases (t : List Nat) : kndT t = 0 ∨ kndT t = 2 ∨ kndT t = 3 ∨ kndT t = 4 := by
 unfold kndT
 split
 ·simp
 ·split
  ·simp
  ·split <;> simp
theorem plc_good {l : List Nat} {m : Bool -> Nat -> Ot} {deep w : Bool} {P : Bool -> List Nd -> Prop} (hm : deep = false -> ∀ v i, i <= l.length -> Good (P v) l.length i (m v i)) (i : Nat) (hi : i <= l.length) : GoodP (okNd (!deep) P w) l.length i (plc l m deep w i) := by
 intro h
 unfold plc at h ⊢
 simp only at h ⊢
 have hge := far_ge wdB l i
 split at h
 ·simp [er_] at h
 ·rename_i h0
  rw [if_neg h0]
  split at h
  ·simp [er_] at h
  ·rename_i h1
   rw [if_neg h1]
   have hb : Nm.D.isB (sub l i (far wdB l i)) = true := by simpa using h1
   split at h
   ·rename_i h2
    rw [if_pos h2]
    have := (List.getElem?_eq_some_iff.1 h2).1
    exact ⟨_, rfl, .inr (.inr (.inl ⟨.inl rfl, rfl, rfl, rfl, hb⟩)), by simp [Nd.k], by show i < far wdB l i + 1; omega, by show far wdB l i + 1 <= _; omega⟩
   ·rename_i h2
    rw [if_neg h2]
    split at h
    ·simp [er_] at h
    ·rename_i h3
     rw [if_neg h3]
     have h3' : l[far wdB l i]? = some 44 := by simpa using h3
     have hk := (List.getElem?_eq_some_iff.1 h3').1
     have hj := far_ge (· == 32) l (far wdB l i + 1)
     have hj2 : far (· == 32) l (far wdB l i + 1) <= l.length := far_le (by omega)
     obtain ⟨j, ej⟩ : ∃ j, far (· == 32) l (far wdB l i + 1) = j := ⟨_, rfl⟩
     rw [ej] at h hj hj2 ⊢
     have hq := far_ge wdB l j
     have hq2 : far wdB l j <= l.length := far_le hj2
     obtain ⟨q, eq⟩ : ∃ q, far wdB l j = q := ⟨_, rfl⟩
     rw [eq] at h hq hq2 ⊢
     split at h
     ·simp [er_] at h
     ·rename_i h4
      rw [if_neg h4]
      split at h
      ·simp [er_] at h
      ·rename_i h5
       rw [if_neg h5]
       split at h
       ·rename_i h6
        rw [if_pos h6]
        split at h
        ·simp [er_] at h
        ·rename_i h7
         rw [if_neg h7]
         have h7' : l[q]? = some 125 := by simpa using h7
         have := (List.getElem?_eq_some_iff.1 h7').1
         exact ⟨_, rfl, .inr (.inr (.inl ⟨.inr rfl, rfl, rfl, rfl, hb⟩)), by simp [Nd.k], by show i < q + 1; omega, by show q + 1 <= _; omega⟩
       ·rename_i h6
        rw [if_neg h6]
        split at h
        ·simp [er_] at h
        ·rename_i h7
         rw [if_neg h7]
         have hd : deep = false := by simpa using h7
         split at h
         ·simp [er_] at h
         ·rename_i h8
          rw [if_neg h8]
          have h8' : l[q]? = some 44 := by simpa using h8
          have hql := (List.getElem?_eq_some_iff.1 h8').1
          have h34 : kndT (sub l j q) = 3 ∨ kndT (sub l j q) = 4 := by
           rcases knd_cases (sub l j q) with e | e | e | e
           ·exact absurd e h5
           ·exact absurd e h6
           ·exact .inl e
           ·exact .inr e
          obtain ⟨kk, ek⟩ : ∃ kk, kndT (sub l j q) = kk := ⟨_, rfl⟩
          rw [ek] at h h34 ⊢
          obtain ⟨x, e1, e2, e3, e4, e5⟩ := cas_good (k := kk) (n := sub l i (far wdB l i)) (m := m (w || kk == 3)) (P := P (w || kk == 3)) (N := okNd (!deep) P w) (fun i hi => hm hd (w || kk == 3) i hi) (l.length + 1) (far (· == 32) l (q + 1)) [] [] (far_le (by omega)) rfl trivial (fun q hq => by cases hq)
           (fun ws ks hl ho hw hk => .inr (.inr (.inr ⟨h34, by simp [hd], rfl, hb, hl, ho, hw, hk⟩))) h
          have := far_ge (· == 32) l (q + 1)
          refine ⟨x, e1, e2, by omega, ?_, e5⟩
          clear hm h
          omega
theorem mes_good {l : List Nat} {w : Bool} {p : Nat -> Ot} {ch : Bool} {kids : Bool -> List Nd -> Prop} (hp : ∀ i, i <= l.length -> GoodP (okNd ch kids w) l.length i (p i)) :
  ∀ (f i : Nat) (acc : List Nd), i <= l.length -> okLs (okNd ch kids w) false acc -> lstT false acc = false -> Good (okLs (okNd ch kids w) false) l.length i (mes l w p f i acc)
 | 0, i, acc, hi, ha, _ => fun _ => ⟨ha, Nat.le_refl _, hi⟩
 | f + 1, i, acc, hi, ha, ht => by
  intro h
  rw [mes] at h ⊢
  try simp only at h ⊢
  have hge := far_ge (plB w) l i
  have hle := far_le (p := plB w) hi
  have hall := far_all (p := plB w) (l := l) (i := i)
  have hstop := fun c (hc : l[far (plB w) l i]? = some c) => far_at (p := plB w) _ (Nat.le_refl _) hc
  obtain ⟨k, ek⟩ : ∃ k, far (plB w) l i = k := ⟨_, rfl⟩
  rw [ek] at h hge hle hall hstop ⊢
  have hacc : okLs (okNd ch kids w) false (if i < k then acc ++ [.mk 0 (sub l i k) [] [] []] else acc) := by
   split
   ·rename_i hik
    exact okLs_snoc ha (.inl ⟨rfl, rfl, rfl, rfl, sub_ne hik hle, hall⟩) (fun e => by rw [ht] at e; cases e)
   ·exact ha
  obtain ⟨acc', ea⟩ : ∃ a, (if i < k then acc ++ [.mk 0 (sub l i k) [] [] []] else acc) = a := ⟨_, rfl⟩
  rw [ea] at h hacc ⊢
  split at h
  ·rename_i h1
   rw [if_pos h1]
   have hk := (List.getElem?_eq_some_iff.1 h1).1
   obtain ⟨g1, g2, g3⟩ := mes_good hp f (k + 1) _ hk (okLs_snoc hacc (.inr (.inl ⟨rfl, plB_sign (hstop 35 h1)⟩)) (fun _ => by simp [Nd.k])) (by simp [lstT, Nd.k]) h
   exact ⟨g1, by omega, g3⟩
  ·rename_i h1
   rw [if_neg h1]
   split at h
   ·rename_i h2
    rw [if_pos h2]
    exact ⟨hacc, hge, hle⟩
   ·rename_i h2
    rw [if_neg h2]
    have h2' : l[k]? = some 123 := by simpa using h2
    have hk := (List.getElem?_eq_some_iff.1 h2').1
    split at h
    ·rename_i h3
     exact absurd h h3
    ·rename_i h3
     rw [if_neg h3]
     obtain ⟨x, e1, e2, e3, e4, e5⟩ := hp (k + 1) hk (by simpa using h3)
     rw [show (p (k + 1)).l.headD .zero = x by rw [e1]; rfl] at h ⊢
     obtain ⟨g1, g2, g3⟩ := mes_good hp f (p (k + 1)).a _ e5 (okLs_snoc hacc e2 (fun _ => e3)) (by simpa [lstT] using e3) h
     exact ⟨g1, by omega, g3⟩
theorem msg_good (l : List Nat) : ∀ (r : Nat) (w : Bool) (i : Nat), i <= l.length -> Good (Rt r w) l.length i (msg l r w i)
 | 0, w, i, hi => mes_good (fun i hi => plc_good (P := fun _ _ => False) (fun h => by cases h) i hi) _ i [] hi trivial rfl
 | r + 1, w, i, hi => mes_good (fun i hi => plc_good (P := Rt r) (fun _ v i hi => msg_good l r v i hi) i hi) _ i [] hi trivial rfl
theorem rdM_good {l : List Nat} (h : (rdM l).e = 0) : Rt 3 false (rdM l).l := by
 unfold rdM at h ⊢
 split at h
 ·simp [er_] at h
 ·rename_i h0
  rw [if_neg h0]
  simp only at h ⊢
  split at h
  ·rename_i h1
   exact absurd h h1
  ·rename_i h1
   rw [if_neg h1]
   split at h
   ·simp [er_] at h
   ·rename_i h2
    rw [if_neg h2]
    exact (msg_good l 3 false 0 (Nat.zero_le _) (by simpa using h1)).1
end D
end Go.Proofs.YtgnjjlgmlokhmaaGreatDoor
set_option linter.unusedVariables false
set_option linter.unusedSimpArgs false
namespace Go.Proofs.YtgnjjlgmlokhmaaGreatDoor
namespace D
theorem prN_text {t : List Nat} : prN (.mk 0 t [] [] []) = t := by simp [prN]
theorem prN_sign : prN (.mk 5 [] [] [] []) = [35] := by simp [prN]
section
variable {l : List Nat} {w : Bool} {p : Nat -> Ot} {ch : Bool} {kids : Bool -> List Nd -> Prop}
theorem head_item {x : Nd} (hx : okNd ch kids w x) (h0 : x.k ≠ 0) : ∃ c r, prN x = c :: r ∧ plB w c = false := by
 obtain ⟨k, t, n, ws, ks⟩ := x
 rcases hx with ⟨e, _⟩ | ⟨e, hw⟩ | ⟨hk, ht, hws, hks, hn⟩ | ⟨hk, _⟩
 ·exact absurd e h0
 ·injection e with e1 e2 e3 e4 e5
  subst e1 e2 e3 e4 e5
  exact ⟨35, [], prN_sign, by subst hw; rfl⟩
 ·simp only [Nd.k] at hk
  rcases hk with rfl | rfl
  ·exact ⟨123, _, by simp [prN]; rfl, by cases w <;> rfl⟩
  ·exact ⟨123, _, by simp [prN]; rfl, by cases w <;> rfl⟩
 ·simp only [Nd.k] at hk
  rcases hk with rfl | rfl
  ·exact ⟨123, _, by simp [prN]; rfl, by cases w <;> rfl⟩
  ·exact ⟨123, _, by simp [prN]; rfl, by cases w <;> rfl⟩
theorem ne_nil {x : Nd} (hx : okNd ch kids w x) : prN x ≠ [] := by
 by_cases h0 : x.k = 0
 ·obtain ⟨k, t, n, ws, ks⟩ := x
  rcases hx with ⟨e, e1, e2, e3, e4, _⟩ | ⟨e, _⟩ | ⟨hk, _⟩ | ⟨hk, _⟩
  ·simp only [Nd.k, Nd.n, Nd.ws, Nd.ks, Nd.t] at e e1 e2 e3 e4
   subst e e1 e2 e3
   rw [prN_text]; exact e4
  ·injection e with e1; simp [Nd.k, e1] at h0
  ·omega
  ·omega
 ·obtain ⟨c, r, e, _⟩ := head_item hx h0
  rw [e]; simp
theorem len_le : ∀ {pt : Bool} {xs : List Nd}, okLs (okNd ch kids w) pt xs -> xs.length <= (prL xs).length
 | pt, [], _ => by simp
 | pt, x :: xs, h => by
  have := len_le h.2.2
  have h1 := List.length_pos_iff.2 (ne_nil h.1)
  rw [prL]; simp; omega
theorem mes_eq {f i k : Nat} {acc acc' : List Nd} (hk : far (plB w) l i = k) (ha : (if i < k then acc ++ [.mk 0 (sub l i k) [] [] []] else acc) = acc') : mes l w p (f + 1) i acc =
  (if l[k]? = some 35 then mes l w p f (k + 1) (acc' ++ [.mk 5 [] [] [] []]) else if l[k]? ≠ some 123 then (⟨acc', k, 0⟩ : Ot) else if (p (k + 1)).e ≠ 0 then p (k + 1) else mes l w p f (p (k + 1)).a (acc' ++ [(p (k + 1)).l.headD .zero])) := by
 subst hk ha
 rw [mes]
end
end D
end Go.Proofs.YtgnjjlgmlokhmaaGreatDoor
