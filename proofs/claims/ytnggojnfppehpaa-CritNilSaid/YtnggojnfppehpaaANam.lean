/-
  Names as lists of plain numbers: which texts are names, which names are right, which comes first, sorted lists of them. No program is spoken of.
-/
import Derived.Test.YtnggojnfppehpaaNam
set_option linter.unusedVariables false
set_option linter.unusedSimpArgs false
set_option maxRecDepth 100000
namespace Go.Proofs.Ytnggojnfppehpaa.Nm
namespace D
open Go.Proofs.Ytnggojnfppehpaa.D (ns sb ns_len ns_lt sb_ns ns_sb sb_len ns_inj)

/-- Which of two rows of bytes comes first. -/
def cmp : List Nat → List Nat → Int
  | [], [] => 0
  | [], _ :: _ => -1
  | _ :: _, [] => 1
  | x :: a, y :: b => if x = y then cmp a b else if x < y then -1 else 1
theorem cmp_self : ∀ a, cmp a a = 0
  | [] => rfl
  | x :: a => by rw [cmp, if_pos rfl, cmp_self a]
theorem cmp_neg : ∀ a b, cmp b a = - cmp a b
  | [], [] => rfl
  | [], _ :: _ => rfl
  | _ :: _, [] => rfl
  | x :: a, y :: b => by
    rw [cmp, cmp]
    by_cases h : x = y
    · subst h; rw [if_pos rfl, if_pos rfl, cmp_neg a b]
    · rw [if_neg (fun e => h e.symm), if_neg h]
      by_cases h2 : x < y
      · rw [if_neg (by omega), if_pos h2]; rfl
      · rw [if_pos (by omega), if_neg h2]
theorem cmp_in : ∀ a b, cmp a b = -1 ∨ cmp a b = 0 ∨ cmp a b = 1
  | [], [] => by simp [cmp]
  | [], _ :: _ => by simp [cmp]
  | _ :: _, [] => by simp [cmp]
  | x :: a, y :: b => by
    rw [cmp]
    split
    · exact cmp_in a b
    · split <;> simp
theorem cmp_zero : ∀ a b, cmp a b = 0 ↔ a = b
  | [], [] => by simp [cmp]
  | [], _ :: _ => by simp [cmp]
  | _ :: _, [] => by simp [cmp]
  | x :: a, y :: b => by
    rw [cmp]
    split
    · rename_i h; subst h; rw [cmp_zero a b]; simp
    · rename_i h
      split <;> simp [h]
theorem cmp_trans : ∀ a b c, cmp a b = -1 → cmp b c = -1 → cmp a c = -1
  | [], [], _ => by simp [cmp]
  | [], _ :: _, [] => by simp [cmp]
  | [], _ :: _, _ :: _ => by simp [cmp]
  | _ :: _, [], _ => by simp [cmp]
  | _ :: _, _ :: _, [] => by simp [cmp]
  | x :: a, y :: b, z :: c => by
    simp only [cmp]
    intro h1 h2
    by_cases e1 : x = y
    · subst e1
      rw [if_pos rfl] at h1
      by_cases e2 : x = z
      · subst e2
        rw [if_pos rfl] at h2 ⊢
        exact cmp_trans a b c h1 h2
      · rw [if_neg e2] at h2 ⊢
        exact h2
    · rw [if_neg e1] at h1
      have hxy : x < y := by
        by_cases h : x < y
        · exact h
        · rw [if_neg h] at h1; simp at h1
      by_cases e2 : y = z
      · subst e2
        rw [if_neg e1]; exact h1
      · rw [if_neg e2] at h2
        have hyz : y < z := by
          by_cases h : y < z
          · exact h
          · rw [if_neg h] at h2; simp at h2
        rw [if_neg (by omega), if_pos (by omega)]

def letB (c : Nat) : Bool := decide (97 ≤ c) && decide (c ≤ 122)
def mayB (c : Nat) : Bool := letB c || (decide (48 ≤ c) && decide (c ≤ 57)) || decide (c = 45) || decide (c = 95) || decide (c = 46)
/-- Is it a name's text? -/
def isB (t : List Nat) : Bool := decide (1 ≤ t.length) && decide (t.length ≤ 12) && letB (t.getD 0 0) && t.all mayB
theorem may_bd {c : Nat} (h : mayB c = true) : 1 ≤ c ∧ c ≤ 122 := by
  simp [mayB, letB] at h
  omega
theorem isB_iff {t : List Nat} : isB t = true ↔ 1 ≤ t.length ∧ t.length ≤ 12 ∧ letB (t.getD 0 0) = true ∧ ∀ c ∈ t, mayB c = true := by
  simp [isB, and_assoc]

/-- A name: 12 bytes. -/
structure Nm where
  l : List Nat
  len : l.length = 12
  lt : ∀ b ∈ l, b < 256
theorem Nm.eq {x y : Nm} (h : x.l = y.l) : x = y := by
  cases x; cases y; simp only at h; subst h; rfl
theorem Nm.eq_iff {x y : Nm} : x = y ↔ x.l = y.l := ⟨fun h => by rw [h], Nm.eq⟩
instance : DecidableEq Nm := fun x y => decidable_of_iff (x.l = y.l) Nm.eq_iff.symm
def zero : Nm := ⟨List.replicate 12 0, by simp, by intro b hb; have := (List.mem_replicate.1 hb).2; omega⟩
instance : Inhabited Nm := ⟨zero⟩

/-- The first k bytes of a text, and 0 behind them. -/
def padl (t : List Nat) (k : Nat) : List Nat := (t.take k ++ List.replicate 12 0).take 12
theorem padl_len (t : List Nat) (k : Nat) : (padl t k).length = 12 := by simp [padl]
theorem padl_lt {t : List Nat} (h : ∀ b ∈ t, b < 256) (k : Nat) : ∀ b ∈ padl t k, b < 256 := by
  intro b hb
  rcases List.mem_append.1 (List.mem_of_mem_take hb) with hb | hb
  · exact h b (List.mem_of_mem_take hb)
  · have := (List.mem_replicate.1 hb).2; omega
theorem padl_zero (t : List Nat) : padl t 0 = List.replicate 12 0 := by simp [padl]
theorem padl_next {t : List Nat} {k b : Nat} (hb : t[k]? = some b) (hk : k < 12) : (padl t k).set k b = padl t (k + 1) := by
  obtain ⟨hl, he⟩ := List.getElem?_eq_some_iff.1 hb
  apply List.ext_getElem?
  intro i
  rw [List.getElem?_set, padl_len]
  by_cases hik : k = i
  · subst hik
    rw [if_pos rfl, if_pos hk]
    simp only [padl]
    rw [List.getElem?_take_of_lt hk, List.getElem?_append_left (by simp; omega), List.getElem?_take_of_lt (by omega), hb]
  · rw [if_neg hik]
    simp only [padl]
    by_cases hi : i < 12
    · rw [List.getElem?_take_of_lt hi, List.getElem?_take_of_lt hi]
      by_cases h2 : i < k
      · rw [List.getElem?_append_left (by simp; omega), List.getElem?_append_left (by simp; omega), List.getElem?_take_of_lt h2, List.getElem?_take_of_lt (by omega)]
      · rw [List.getElem?_append_right (by simp; omega), List.getElem?_append_right (by simp; omega)]
        simp only [List.length_take, List.getElem?_replicate]
        rw [if_pos (by omega), if_pos (by omega)]
    · rw [List.getElem?_take_eq_none (by omega), List.getElem?_take_eq_none (by omega)]
theorem padl_all {t : List Nat} (k : Nat) (h : t.length ≤ k) : padl t k = padl t t.length := by simp [padl, List.take_of_length_le h]
theorem padl_12 (t : List Nat) (k : Nat) (h : 12 ≤ k) : padl t k = padl t 12 := by
  by_cases ht : t.length ≤ 12
  · rw [padl_all k (by omega), padl_all 12 ht]
  · simp only [padl]
    rw [List.take_append_of_le_length (by simp; omega), List.take_append_of_le_length (by simp; omega), List.take_take, List.take_take]
    congr 1; omega
def padN (t : List Nat) (h : ∀ b ∈ t, b < 256) : Nm := ⟨padl t 12, padl_len t 12, padl_lt h 12⟩
def pad (s : ByteArray) : Nm := padN (ns s) (ns_lt s)
/-- The bytes ahead of the first byte 0. -/
def hd (l : List Nat) : List Nat := l.takeWhile (fun b => decide (b ≠ 0))
theorem hd_le (l : List Nat) : (hd l).length ≤ l.length := (List.takeWhile_sublist _).length_le
theorem hd_mem {l : List Nat} {b : Nat} (h : b ∈ hd l) : b ∈ l := (List.takeWhile_sublist _).subset h
theorem hd_take {l : List Nat} {k : Nat} (h : ∀ b ∈ l.take k, b ≠ 0) (h0 : l[k]? = some 0 ∨ l.length ≤ k) : hd l = l.take k := by
  induction l generalizing k with
  | nil => simp [hd]
  | cons a l ih =>
    cases k with
    | zero =>
      rcases h0 with h0 | h0
      · simp at h0
        subst h0
        simp [hd]
      · simp at h0
    | succ k =>
      have ha : a ≠ 0 := h a (by simp)
      have := ih (k := k) (fun b hb => h b (by simp [hb])) (by rcases h0 with h0 | h0; exact .inl (by simpa using h0); exact .inr (by simpa using h0))
      simp only [hd] at this ⊢
      rw [List.takeWhile_cons_of_pos (by simpa using ha), this]; rfl
def hdp (x : Nm) : Nm := padN (hd x.l) fun b hb => x.lt b (hd_mem hb)
def right (x : Nm) : Bool := isB (hd x.l) && decide (hdp x = x)
def txt (x : Nm) : List Nat := if right x then hd x.l else []
theorem txt_no {x : Nm} (h : right x = false) : txt x = [] := by simp [txt, h]
theorem txt_yes {x : Nm} (h : right x = true) : txt x = hd x.l := by simp [txt, h]
theorem txt_is {x : Nm} (h : right x = true) : isB (txt x) = true := by
  rw [txt_yes h]
  simp [right] at h
  exact h.1
theorem txt_nil (x : Nm) : (txt x = []) ↔ right x = false := by
  constructor
  · intro h
    cases hr : right x
    · rfl
    · have := txt_is hr
      rw [h] at this
      simp [isB] at this
  · exact txt_no
theorem hd_padl {t : List Nat} (h : isB t = true) : hd (padl t 12) = t := by
  obtain ⟨h1, h2, _, h4⟩ := isB_iff.1 h
  have e : padl t 12 = t ++ List.replicate (12 - t.length) 0 := by
    simp only [padl]
    rw [List.take_of_length_le h2, List.take_append, List.take_of_length_le h2, List.take_replicate]
    congr 2; omega
  have ht : (padl t 12).take t.length = t := by rw [e, List.take_left]
  rw [hd_take (k := t.length), ht]
  · rw [ht]
    intro b hb
    have := may_bd (h4 b hb)
    omega
  · by_cases h12 : t.length = 12
    · right; rw [padl_len]; omega
    · left
      rw [e, List.getElem?_append_right (Nat.le_refl _), Nat.sub_self, List.getElem?_replicate, if_pos (by omega)]
theorem pad_right {t : List Nat} (h : isB t = true) (hb : ∀ b ∈ t, b < 256) : right (padN t hb) = true := by
  have := hd_padl h
  have e : hdp (padN t hb) = padN t hb := Nm.eq (by show padl (hd (padl t 12)) 12 = padl t 12; rw [this])
  simp only [right, e, decide_true, Bool.and_true]
  show isB (hd (padl t 12)) = true
  rw [this, h]
theorem pad_txt {t : List Nat} (h : isB t = true) (hb : ∀ b ∈ t, b < 256) : txt (padN t hb) = t := by
  rw [txt_yes (pad_right h hb)]
  exact hd_padl h
theorem pad_inj {t u : List Nat} (h : isB t = true) (h' : isB u = true) (e : padl t 12 = padl u 12) : t = u := by
  rw [← hd_padl h, e, hd_padl h']

/-- Which name comes first. -/
def less (x y : Nm) : Bool := decide (cmp x.l y.l = -1)
theorem less_irrefl (x : Nm) : less x x = false := by simp [less, cmp_self]
theorem less_trans {x y z : Nm} (h : less x y = true) (k : less y z = true) : less x z = true := by
  simp [less] at *
  exact cmp_trans _ _ _ h k
theorem less_not {x y : Nm} (h : less x y = true) : less y x = false := by
  simp [less] at *
  rw [cmp_neg, h]; simp
theorem less_tot {x y : Nm} (h : less x y = false) (k : less y x = false) : x = y := by
  simp [less] at *
  rw [cmp_neg] at k
  refine Nm.eq ((cmp_zero _ _).1 ?_)
  rcases cmp_in x.l y.l with h1 | h1 | h1 <;> omega
theorem less_ntrans {x y z : Nm} (h : less x y = false) (k : less y z = false) : less x z = false := by
  cases hz : less x z
  · rfl
  · exfalso
    cases hy : less y x
    · have := less_tot h hy
      subst this
      rw [hz] at k; cases k
    · have := less_trans hy hz
      rw [this] at k; cases k
/-- Of names' texts the same comes first: the bytes behind are 0. -/
theorem cmp_zeros : ∀ (a b : List Nat) (i j : Nat), (∀ c ∈ a, c ≠ 0) → (∀ c ∈ b, c ≠ 0) → a.length + i = b.length + j → cmp (a ++ List.replicate i 0) (b ++ List.replicate j 0) = cmp a b
  | [], [], i, j, _, _, h => by
    have : i = j := by simpa using h
    subst this
    rw [List.nil_append, cmp_self]; rfl
  | [], y :: b, i, j, _, hb, h => by
    obtain ⟨m, rfl⟩ : ∃ m, i = m + 1 := ⟨i - 1, by simp at h; omega⟩
    have := hb y (by simp)
    rw [List.replicate_succ, List.nil_append, List.cons_append]
    simp only [cmp]
    rw [if_neg (fun e => this e.symm), if_pos (by omega)]
  | x :: a, [], i, j, ha, _, h => by
    obtain ⟨m, rfl⟩ : ∃ m, j = m + 1 := ⟨j - 1, by simp at h; omega⟩
    have := ha x (by simp)
    rw [List.replicate_succ, List.nil_append, List.cons_append]
    simp only [cmp]
    rw [if_neg this, if_neg (by omega)]
  | x :: a, y :: b, i, j, ha, hb, h => by
    rw [List.cons_append, List.cons_append, cmp, cmp, cmp_zeros a b i j (fun c hc => ha c (by simp [hc])) (fun c hc => hb c (by simp [hc])) (by simp at h; omega)]
theorem cmp_pad {t u : List Nat} (h : isB t = true) (h' : isB u = true) : cmp (padl t 12) (padl u 12) = cmp t u := by
  obtain ⟨_, h2, _, h4⟩ := isB_iff.1 h
  obtain ⟨_, k2, _, k4⟩ := isB_iff.1 h'
  have e : ∀ t : List Nat, t.length ≤ 12 → padl t 12 = t ++ List.replicate (12 - t.length) 0 := by
    intro t h2
    simp only [padl]
    rw [List.take_of_length_le h2, List.take_append, List.take_of_length_le h2, List.take_replicate]
    congr 2; omega
  rw [e t h2, e u k2]
  exact cmp_zeros _ _ _ _ (fun c hc => by have := may_bd (h4 c hc); omega) (fun c hc => by have := may_bd (k4 c hc); omega) (by omega)

/-- A list in order, and one more, behind those that are the same. -/
def ins (l : List Nm) (n : Nm) : List Nm := l.takeWhile (fun y => !less n y) ++ n :: l.dropWhile (fun y => !less n y)
theorem ins_perm (l : List Nm) (n : Nm) : (ins l n).Perm (n :: l) := by
  have := List.takeWhile_append_dropWhile (p := fun y => !less n y) (l := l)
  unfold ins
  exact List.perm_middle.trans (by rw [this])
theorem ins_len (l : List Nm) (n : Nm) : (ins l n).length = l.length + 1 := (ins_perm l n).length_eq.trans (by simp)
theorem mem_ins {l : List Nm} {n x : Nm} : x ∈ ins l n ↔ x = n ∨ x ∈ l := (ins_perm l n).mem_iff.trans List.mem_cons
/-- In order. -/
def Srt (l : List Nm) : Prop := l.Pairwise fun x y => less y x = false
theorem srt_ins {l : List Nm} (h : Srt l) (n : Nm) : Srt (ins l n) := by
  induction l with
  | nil => simp [ins, Srt]
  | cons a l ih =>
    obtain ⟨h1, h2⟩ := List.pairwise_cons.1 h
    by_cases ha : less n a = true
    · have e : ins (a :: l) n = n :: a :: l := by simp [ins, ha]
      rw [e]
      refine List.pairwise_cons.2 ⟨fun y hy => ?_, h⟩
      rcases List.mem_cons.1 hy with rfl | hy
      · exact less_not ha
      · exact less_ntrans (h1 y hy) (less_not ha)
    · have ha' : less n a = false := by simpa using ha
      have e : ins (a :: l) n = a :: ins l n := by simp [ins, ha']
      rw [e]
      refine List.pairwise_cons.2 ⟨fun y hy => ?_, ih h2⟩
      rcases mem_ins.1 hy with rfl | hy
      · exact ha'
      · exact h1 y hy
theorem srt_one {l m : List Nm} (hl : Srt l) (hm : Srt m) (hp : l.Perm m) : l = m :=
  List.Perm.eq_of_pairwise (le := fun x y => less y x = false) (fun a b _ _ h1 h2 => less_tot h2 h1) hl hm hp
/-- The right ones, in order. -/
def want (l : List Nm) : List Nm := (l.filter right).foldl ins []
theorem fold_srt : ∀ (l m : List Nm), Srt m → Srt (l.foldl ins m)
  | [], _, h => h
  | x :: l, m, h => fold_srt l (ins m x) (srt_ins h x)
theorem fold_perm : ∀ (l m : List Nm), (l.foldl ins m).Perm (l ++ m)
  | [], _ => List.Perm.refl _
  | x :: l, m => (fold_perm l (ins m x)).trans (((ins_perm m x).append_left l).trans List.perm_middle)
theorem want_srt (l : List Nm) : Srt (want l) := fold_srt _ _ List.Pairwise.nil
theorem want_perm (l : List Nm) : (want l).Perm (l.filter right) := by
  have := fold_perm (l.filter right) []
  rwa [List.append_nil] at this
theorem want_next {l : List Nm} {i : Nat} {x : Nm} (h : l[i]? = some x) : want (l.take (i + 1)) = if right x then ins (want (l.take i)) x else want (l.take i) := by
  obtain ⟨h1, h2⟩ := List.getElem?_eq_some_iff.1 h
  rw [List.take_succ_eq_append_getElem h1, h2]
  simp only [want, List.filter_append]
  cases hr : right x <;> simp [hr, List.foldl_append]
theorem right_next {l : List Nm} {i : Nat} {x : Nm} (h : l[i]? = some x) : (l.take (i + 1)).filter right = if right x then (l.take i).filter right ++ [x] else (l.take i).filter right := by
  obtain ⟨h1, h2⟩ := List.getElem?_eq_some_iff.1 h
  rw [List.take_succ_eq_append_getElem h1, h2]
  simp only [List.filter_append]
  cases hr : right x <;> simp [hr]
/-- How often. -/
def cnt (l : List Nm) (n : Nm) : Nat := l.countP (fun x => decide (x = n))
theorem cnt_next {l : List Nm} {i : Nat} {x : Nm} (h : l[i]? = some x) (n : Nm) : cnt (l.take (i + 1)) n = if x = n then cnt (l.take i) n + 1 else cnt (l.take i) n := by
  obtain ⟨h1, h2⟩ := List.getElem?_eq_some_iff.1 h
  rw [List.take_succ_eq_append_getElem h1, h2]
  simp only [cnt, List.countP_append, List.countP_singleton]
  split <;> simp_all
theorem cnt_le (l : List Nm) (n : Nm) : cnt l n ≤ l.length := List.countP_le_length
theorem cnt_perm {l m : List Nm} (h : l.Perm m) (n : Nm) : cnt l n = cnt m n := h.countP_eq _
theorem cnt_pos {l : List Nm} {n : Nm} : 0 < cnt l n ↔ n ∈ l := by
  simp [cnt, List.countP_pos_iff]
/-- Without one. -/
def wo (l : List Nm) (n : Nm) : List Nm := l.filter fun x => decide (x ≠ n)
theorem wo_next {l : List Nm} {i : Nat} {x : Nm} (h : l[i]? = some x) (n : Nm) : wo (l.take (i + 1)) n = if x = n then wo (l.take i) n else wo (l.take i) n ++ [x] := by
  obtain ⟨h1, h2⟩ := List.getElem?_eq_some_iff.1 h
  rw [List.take_succ_eq_append_getElem h1, h2]
  simp only [wo, List.filter_append]
  split <;> simp_all
theorem srt_wo {l : List Nm} (h : Srt l) (n : Nm) : Srt (wo l n) := h.filter _
theorem mem_wo {l : List Nm} {n x : Nm} : x ∈ wo l n ↔ x ∈ l ∧ x ≠ n := by simp [wo]
theorem wo_nodup {l : List Nm} (h : l.Nodup) (n : Nm) : (wo l n).Nodup := h.filter _
theorem ins_nodup {l : List Nm} {n : Nm} (h : l.Nodup) (hn : n ∉ l) : (ins l n).Nodup := (ins_perm l n).nodup_iff.2 (List.nodup_cons.2 ⟨hn, h⟩)
theorem wo_len {l : List Nm} (h : l.Nodup) (n : Nm) : (wo l n).length + (if n ∈ l then 1 else 0) = l.length := by
  induction l with
  | nil => simp [wo]
  | cons a l ih =>
    obtain ⟨h1, h2⟩ := List.nodup_cons.1 h
    have := ih h2
    by_cases e : a = n
    · subst e
      have hw : wo (a :: l) a = wo l a := by simp [wo]
      rw [hw]
      rw [if_neg h1] at this
      simp; omega
    · have hw : wo (a :: l) n = a :: wo l n := by simp [wo, e]
      rw [hw]
      have hm : (n ∈ a :: l) ↔ n ∈ l := by rw [List.mem_cons]; exact ⟨fun h => h.resolve_left fun h => e h.symm, .inr⟩
      simp only [hm, List.length_cons]; omega
/-- How many kinds. -/
def kinds (l : List Nm) (k : Nat) : Nat := (List.range k).countP fun i => decide (i = 0) || decide (l[i]? ≠ l[i - 1]?)
theorem kinds_next (l : List Nm) (k : Nat) : kinds l (k + 1) = kinds l k + (if k = 0 ∨ l[k]? ≠ l[k - 1]? then 1 else 0) := by
  simp only [kinds, List.range_succ, List.countP_append, List.countP_singleton]
  simp
theorem kinds_le (l : List Nm) (k : Nat) : kinds l k ≤ k := by
  have := List.countP_le_length (p := fun i => decide (i = 0) || decide (l[i]? ≠ l[i - 1]?)) (l := List.range k)
  simpa [kinds] using this
end D
end Go.Proofs.Ytnggojnfppehpaa.Nm
