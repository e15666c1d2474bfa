/-
  Keys as lists of plain numbers: which are right, what parts make one, its text, what text is one's; prefixes. No program is spoken of.
-/
import Derived.Test.YtkhjnfplcaffnaaGa
import Derived.Lib.AtoiAll
import Derived.Lib.ItoaNum
import Derived.Lib.Index
set_option linter.unusedVariables false
set_option linter.unusedSimpArgs false
set_option maxRecDepth 100000
namespace Go.Proofs.Ytkhjnfplcaffnaa
/-- A tag's text, of a right one. -/
def D.tx' (x : D.Tg) : List Nat := if D.right x then D.spell x else []
namespace D

/-- A key: 25 bytes. -/
structure Ky where
  l : List Nat
  len : l.length = 25
  lt : ∀ b ∈ l, b < 256
theorem Ky.eq {x y : Ky} (h : x.l = y.l) : x = y := by cases x; cases y; simp at h; subst h; rfl
theorem Ky.eq_iff {x y : Ky} : x = y ↔ x.l = y.l := ⟨fun h => by rw [h], Ky.eq⟩
instance : DecidableEq Ky := fun x y => decidable_of_iff (x.l = y.l) Ky.eq_iff.symm
def zK : Ky := ⟨List.replicate 25 0, by simp, by intro b hb; have := (List.mem_replicate.1 hb).2; omega⟩
instance : Inhabited Ky := ⟨zK⟩
def Ky.k (x : Ky) : Nat := x.l.getD 0 0
def Ky.p (x : Ky) : Nat := x.l.getD 1 0
def Ky.a (x : Ky) : Nat := x.l.getD 2 0
def Ky.n (x : Ky) : Nm.D.Nm := ⟨(x.l.drop 3).take 12, by simp [x.len], fun b hb => x.lt b (List.mem_of_mem_drop (List.mem_of_mem_take hb))⟩
def Ky.t (x : Ky) : Tg := ⟨x.l.drop 15, by simp [x.len], fun b hb => x.lt b (List.mem_of_mem_drop hb)⟩
def mkK (k p a : Nat) (n : Nm.D.Nm) (t : Tg) : Ky := ⟨k % 256 :: p % 256 :: a % 256 :: (n.l ++ t.l), by simp [n.len, t.len], by
  intro b hb
  simp only [List.mem_cons, List.mem_append] at hb
  rcases hb with rfl | rfl | rfl | hb | hb
  · omega
  · omega
  · omega
  · exact n.lt b hb
  · exact t.lt b hb⟩
theorem get_lt {l : List Nat} (h : ∀ b ∈ l, b < 256) (i : Nat) : l.getD i 0 < 256 := by
  rw [List.getD]
  cases e : l[i]? with
  | none => simp
  | some b => simpa using h b (List.mem_of_getElem? e)
theorem Ky.k_lt (x : Ky) : x.k < 256 := get_lt x.lt 0
theorem Ky.p_lt (x : Ky) : x.p < 256 := get_lt x.lt 1
theorem Ky.a_lt (x : Ky) : x.a < 256 := get_lt x.lt 2
theorem mkK_k {k p a : Nat} {n : Nm.D.Nm} {t : Tg} (h : k < 256) : (mkK k p a n t).k = k := by simp [Ky.k, mkK]; omega
theorem mkK_p {k p a : Nat} {n : Nm.D.Nm} {t : Tg} (h : p < 256) : (mkK k p a n t).p = p := by simp [Ky.p, mkK]; omega
theorem mkK_a {k p a : Nat} {n : Nm.D.Nm} {t : Tg} (h : a < 256) : (mkK k p a n t).a = a := by simp [Ky.a, mkK]; omega
theorem mkK_n {k p a : Nat} {n : Nm.D.Nm} {t : Tg} : (mkK k p a n t).n = n := Nm.D.Nm.eq (by simp [Ky.n, mkK, n.len])
theorem mkK_t {k p a : Nat} {n : Nm.D.Nm} {t : Tg} : (mkK k p a n t).t = t := Tg.eq (by
  have := n.len
  simp only [Ky.t, mkK, show (15 : Nat) = n.l.length + 3 by omega, List.drop_succ_cons, List.drop_left])
theorem list3 {l : List Nat} (h : 3 ≤ l.length) : l = l.getD 0 0 :: l.getD 1 0 :: l.getD 2 0 :: l.drop 3 := by
  match l, h with
  | a :: b :: c :: r, _ => rfl
theorem mkK_eta (x : Ky) : mkK x.k x.p x.a x.n x.t = x := Ky.eq (by
  have h1 := x.k_lt; have h2 := x.p_lt; have h3 := x.a_lt
  have e : x.n.l ++ x.t.l = x.l.drop 3 := by
    simp only [Ky.n, Ky.t]
    rw [show x.l.drop 15 = (x.l.drop 3).drop 12 by rw [List.drop_drop], List.take_append_drop]
  show x.k % 256 :: x.p % 256 :: x.a % 256 :: (x.n.l ++ x.t.l) = x.l
  rw [Nat.mod_eq_of_lt h1, Nat.mod_eq_of_lt h2, Nat.mod_eq_of_lt h3, e]
  exact (list3 (by rw [x.len]; decide)).symm)
theorem Ky.ext {x y : Ky} (h1 : x.k = y.k) (h2 : x.p = y.p) (h3 : x.a = y.a) (h4 : x.n = y.n) (h5 : x.t = y.t) : x = y := by
  rw [← mkK_eta x, ← mkK_eta y, h1, h2, h3, h4, h5]
theorem Ky.l_eq (x : Ky) : x.l = x.k :: x.p :: x.a :: (x.n.l ++ x.t.l) := by
  have := congrArg Ky.l (mkK_eta x)
  have h1 := x.k_lt; have h2 := x.p_lt; have h3 := x.a_lt
  rw [← this]
  show x.k % 256 :: x.p % 256 :: x.a % 256 :: (x.n.l ++ x.t.l) = _
  rw [Nat.mod_eq_of_lt h1, Nat.mod_eq_of_lt h2, Nat.mod_eq_of_lt h3]

/-- How many numbers At a kind may have (none: it uses none), whether it uses a name, and a tag. -/
def ats (k : Int) : Nat := if k = 2 then 16 else if k = 4 ∨ k = 5 ∨ k = 6 then 4 else 0
def nmd (k : Int) : Bool := decide (k = 5 ∨ k = 6)
def tgd (k : Int) : Bool := decide (k = 3 ∨ k = 6)
/-- What is wrong with parts. -/
def err (k p a : Int) (n : Nm.D.Nm) (t : Tg) : Int :=
  if k < 1 ∨ 6 < k then 16
  else if (p < 0 ∨ 3 < p) ∨ (0 < ats k ∧ (a < 0 ∨ (ats k : Int) ≤ a)) then 5
  else if nmd k = true ∧ Nm.D.right n = false then 15
  else if tgd k = true ∧ (t = zero ∨ right t = false) then 14 else 0
def mkI (k p a : Int) (n : Nm.D.Nm) (t : Tg) : Ky := mkK k.toNat p.toNat (if 0 < ats k then a.toNat else 0) (if nmd k then n else Nm.D.zero) (if tgd k then t else zero)
/-- The key of parts; the error. -/
def kof (k p a : Int) (n : Nm.D.Nm) (t : Tg) : Ky × Int := if err k p a n t = 0 then (mkI k p a n t, 0) else (zK, err k p a n t)
def kright (x : Ky) : Bool := decide (err x.k x.p x.a x.n x.t = 0 ∧ mkI x.k x.p x.a x.n x.t = x)
theorem err_ok {k p a : Int} {n : Nm.D.Nm} {t : Tg} (h : err k p a n t = 0) : (1 ≤ k ∧ k ≤ 6) ∧ (0 ≤ p ∧ p ≤ 3) ∧ (0 < ats k → 0 ≤ a ∧ a < ats k) ∧ (nmd k = true → Nm.D.right n = true) ∧ (tgd k = true → t ≠ zero ∧ right t = true) := by
  unfold err at h
  split at h
  · cases h
  · split at h
    · cases h
    · split at h
      · cases h
      · split at h
        · cases h
        · rename_i h1 h2 h3 h4
          refine ⟨by omega, by omega, fun h0 => by omega, fun h0 => ?_, fun h0 => ⟨fun e => h4 ⟨h0, .inl e⟩, ?_⟩⟩
          · cases hr : Nm.D.right n
            · exact absurd ⟨h0, hr⟩ h3
            · rfl
          · cases hr : right t
            · exact absurd ⟨h0, .inr hr⟩ h4
            · rfl
theorem err_of {k p a : Int} {n : Nm.D.Nm} {t : Tg} (h1 : 1 ≤ k ∧ k ≤ 6) (h2 : 0 ≤ p ∧ p ≤ 3) (h3 : 0 < ats k → 0 ≤ a ∧ a < ats k) (h4 : nmd k = true → Nm.D.right n = true) (h5 : tgd k = true → t ≠ zero ∧ right t = true) : err k p a n t = 0 := by
  unfold err
  rw [if_neg (by omega), if_neg (by intro h; rcases h with h | ⟨h, h'⟩; omega; have := h3 h; omega), if_neg (by rintro ⟨h, h'⟩; rw [h4 h] at h'; cases h'), if_neg (by rintro ⟨h, h'⟩; have := h5 h; rcases h' with h' | h'; exact this.1 h'; rw [this.2] at h'; cases h')]
theorem ats_le (k : Int) : ats k ≤ 16 := by unfold ats; split <;> (try split) <;> omega
theorem mkI_right {k p a : Int} {n : Nm.D.Nm} {t : Tg} (h : err k p a n t = 0) : kright (mkI k p a n t) = true := by
  obtain ⟨h1, h2, h3, h4, h5⟩ := err_ok h
  have ha := ats_le k
  have e1 : ((mkI k p a n t).k : Int) = k := by rw [mkI, mkK_k (by omega)]; omega
  have e2 : ((mkI k p a n t).p : Int) = p := by rw [mkI, mkK_p (by omega)]; omega
  have e3 : (mkI k p a n t).a = if 0 < ats k then a.toNat else 0 := by
    rw [mkI, mkK_a]
    split
    · have := h3 ‹_›; omega
    · omega
  have e4 : (mkI k p a n t).n = if nmd k then n else Nm.D.zero := mkK_n
  have e5 : (mkI k p a n t).t = if tgd k then t else zero := mkK_t
  simp only [kright, decide_eq_true_eq]
  rw [e1, e2, e3, e4, e5]
  constructor
  · refine err_of h1 h2 (fun h0 => ?_) (fun h0 => ?_) (fun h0 => ?_)
    · have := h3 h0; rw [if_pos h0]; omega
    · rw [if_pos h0]; exact h4 h0
    · rw [if_pos h0]; exact h5 h0
  · unfold mkI
    congr 1
    · split
      · have := h3 ‹_›; omega
      · rfl
    · split <;> rfl
    · split <;> rfl
theorem kof_right {k p a : Int} {n : Nm.D.Nm} {t : Tg} (h : (kof k p a n t).2 = 0) : kright (kof k p a n t).1 = true := by
  unfold kof at h ⊢
  split
  · exact mkI_right ‹_›
  · rename_i hn; rw [if_neg hn] at h; exact absurd h hn
theorem kof_self {x : Ky} (h : kright x = true) : kof x.k x.p x.a x.n x.t = (x, 0) := by
  simp only [kright, decide_eq_true_eq] at h
  rw [kof, if_pos h.1, h.2]
theorem kof_bad {x : Ky} (h : kright x = false) : (kof x.k x.p x.a x.n x.t).2 = 0 → (kof x.k x.p x.a x.n x.t).1 ≠ x := by
  intro h0 e
  unfold kof at h0 e
  split at h0
  · rename_i h1
    rw [if_pos h1] at e
    simp only [kright, decide_eq_false_iff_not] at h
    exact h ⟨h1, e⟩
  · rename_i h1; exact h1 h0

/-- Digits of a number below 100. -/
def dig (n : Nat) : List Nat := if n < 10 then [48 + n] else [48 + n / 10, 48 + n % 10]
theorem dig_dec {n : Nat} (h : n < 100) : (Lib.decDigits n).map (·.toNat) = dig n := by
  unfold dig
  by_cases h1 : n < 10
  · rw [if_pos h1, Lib.decDigits, dif_pos h1]
    simp only [List.map_cons, List.map_nil, UInt8.toNat_ofNat']
    rw [Nat.mod_eq_of_lt (by omega)]
  · rw [if_neg h1, Lib.decDigits, dif_neg h1, Lib.decDigits, dif_pos (by omega)]
    simp only [List.cons_append, List.nil_append, List.map_cons, List.map_nil, UInt8.toNat_ofNat']
    rw [Nat.mod_eq_of_lt (by omega), Nat.mod_eq_of_lt (by omega)]
def lets : List Nat := [112, 103, 108, 98, 115, 116]
/-- A key's parts, as they stand in its text. -/
def kparts (x : Ky) : List (List Nat) := [lets.getD (x.k - 1) 0] :: dig x.p :: ((if 0 < ats x.k then [dig x.a] else []) ++ ((if nmd x.k then [Nm.D.txt x.n] else []) ++ (if tgd x.k then [tx' x.t] else [])))
/-- Pieces joined by / bytes. -/
def jn : List (List Nat) → List Nat
  | [] => []
  | [x] => x
  | x :: y :: r => x ++ 47 :: jn (y :: r)
def ktx (x : Ky) : List Nat := if kright x then jn (kparts x) else []
/-- Pieces between / bytes, so many at most. -/
def kP : List Nat → List Nat
  | [] => []
  | c :: t => if c = 47 then [] else c :: kP t
def kR : List Nat → List Nat
  | [] => []
  | c :: t => if c = 47 then t else kR t
def kM (t : List Nat) : Bool := t.contains 47
def spk : Nat → List Nat → List (List Nat)
  | 0, t => [t]
  | k + 1, t => if kM t then kP t :: spk k (kR t) else [t]
theorem k_at : ∀ {t : List Nat} {k : Nat}, t[k]? = some 47 → (∀ i, i < k → t[i]? ≠ some 47) → kP t = t.take k ∧ kR t = t.drop (k + 1) ∧ kM t = true
  | [], k, h, _ => by simp at h
  | c :: t, 0, h, _ => by
    simp at h
    subst h
    simp [kP, kR, kM]
  | c :: t, k + 1, h, hn => by
    have hc : c ≠ 47 := fun e => hn 0 (by omega) (by simp [e])
    obtain ⟨h1, h2, h3⟩ := k_at (t := t) (k := k) (by simpa using h) (fun i hi => by have := hn (i + 1) (by omega); simpa using this)
    refine ⟨by rw [kP, if_neg hc, h1]; rfl, by rw [kR, if_neg hc, h2]; rfl, ?_⟩
    unfold kM at h3 ⊢
    simp only [List.contains_cons, h3, Bool.or_true]
theorem kM_no {t : List Nat} (h : ∀ i, i < t.length → t[i]? ≠ some 47) : kM t = false := by
  cases hm : kM t
  · rfl
  · unfold kM at hm
    rw [List.contains_iff_mem] at hm
    obtain ⟨i, hi, e⟩ := List.mem_iff_getElem.1 hm
    exact absurd (by rw [List.getElem?_eq_getElem hi, e]) (h i hi)
theorem kR_lt : ∀ {t : List Nat}, kM t = true → (kR t).length < t.length
  | [], h => by simp [kM] at h
  | c :: t, h => by
    rw [kR]
    split
    · simp
    · rename_i hc
      have : kM t = true := by
        unfold kM at h ⊢
        simp only [List.contains_cons, Bool.or_eq_true, beq_iff_eq] at h
        rcases h with h | h
        · exact absurd h.symm hc
        · exact h
      have := kR_lt this
      simp; omega
theorem kP_len : ∀ t : List Nat, (kP t).length ≤ t.length
  | [] => by simp [kP]
  | c :: t => by rw [kP]; have := kP_len t; split <;> simp <;> omega
theorem spk_len : ∀ (k : Nat) (t : List Nat), ∀ p ∈ spk k t, p.length ≤ t.length
  | 0, t, p, h => by simp [spk] at h; subst h; exact Nat.le_refl _
  | k + 1, t, p, h => by
    rw [spk] at h
    split at h
    · rename_i hm
      rcases List.mem_cons.1 h with rfl | h
      · exact kP_len t
      · exact Nat.le_trans (spk_len k _ p h) (Nat.le_of_lt (kR_lt hm))
    · simp at h; subst h; exact Nat.le_refl _
theorem spk_cnt : ∀ (k : Nat) (t : List Nat), 1 ≤ (spk k t).length ∧ (spk k t).length ≤ k + 1
  | 0, t => by simp [spk]
  | k + 1, t => by
    rw [spk]
    split
    · have := spk_cnt k (kR t); simp; omega
    · simp
theorem spk_more : ∀ (k : Nat) (t : List Nat), t.length ≤ k → ∀ j, spk (k + j) t = spk k t
  | 0, t, h, j => by
    have : t = [] := List.eq_nil_of_length_eq_zero (by omega)
    subst this
    cases j <;> rfl
  | k + 1, t, h, j => by
    rw [show k + 1 + j = (k + j) + 1 by omega, spk, spk]
    split
    · rename_i hm
      rw [spk_more k (kR t) (by have := kR_lt hm; omega) j]
    · rfl
theorem k_app : ∀ {a b : List Nat}, kM a = false → kP (a ++ 47 :: b) = a ∧ kR (a ++ 47 :: b) = b ∧ kM (a ++ 47 :: b) = true
  | [], b, _ => by simp [kP, kR, kM]
  | c :: a, b, h => by
    have hc : c ≠ 47 := fun e => by subst e; simp [kM] at h
    have h' : kM a = false := by
      unfold kM at h ⊢
      simp only [List.contains_cons, Bool.or_eq_false_iff] at h
      exact h.2
    obtain ⟨h1, h2, h3⟩ := k_app (b := b) h'
    refine ⟨by rw [List.cons_append, kP, if_neg hc, h1], by rw [List.cons_append, kR, if_neg hc, h2], ?_⟩
    unfold kM at h3 ⊢
    rw [List.cons_append, List.contains_cons, h3, Bool.or_true]
theorem spk_jn : ∀ {xs : List (List Nat)} {k : Nat}, xs ≠ [] → (∀ x ∈ xs, kM x = false) → xs.length ≤ k + 1 → spk k (jn xs) = xs
  | [], k, h, _, _ => absurd rfl h
  | [x], k, _, h, _ => by
    rw [jn]
    cases k with
    | zero => rfl
    | succ k => rw [spk, h x (by simp)]; rfl
  | x :: y :: r, 0, _, _, h => by simp at h
  | x :: y :: r, k + 1, _, h, hl => by
    obtain ⟨h1, h2, h3⟩ := k_app (a := x) (b := jn (y :: r)) (h x (by simp))
    rw [jn, spk, h3, if_pos rfl, h1, h2, spk_jn (by simp) (fun z hz => h z (by simp [hz])) (by simpa using hl)]
/-- The number that a text spells; -1, if none. -/
def num (s : ByteArray) : Int := match Lib.atoiAll s.data.toList with
  | .ok v => v
  | _ => -1
def letS : List UInt8 := [112, 103, 108, 98, 115, 116]
def knd (s : ByteArray) : Int := Lib.index letS s.data.toList + 1
/-- The next of some parts, where it is used, and the rest. -/
def nx : Bool → List ByteArray → ByteArray × List ByteArray
  | true, x :: r => (x, r)
  | _, l => (⟨#[]⟩, l)
def nmP (s : ByteArray) : Nm.D.Nm := if Nm.D.isB (ns s) then Nm.D.pad s else Nm.D.zero
def tgP (s : ByteArray) : Tg := match parse (ns s) with
  | some p => tb p
  | none => zero
def spld (letter : ByteArray) (ps : List ByteArray) : Ky × Int :=
  let k := knd letter
  let q1 := nx true ps
  let q2 := nx (decide (0 < ats k)) q1.2
  let q3 := nx (nmd k) q2.2
  let q4 := nx (tgd k) q3.2
  kof k (num q1.1) (num q2.1) (nmP q3.1) (tgP q4.1)
def kparse (s : ByteArray) : Ky × Int := match spk 5 (ns s) with
  | [] => (zK, 3)
  | l :: ps => if (spld (sb l) (ps.map sb)).2 = 0 ∧ ktx (spld (sb l) (ps.map sb)).1 = ns s then spld (sb l) (ps.map sb) else (zK, 3)
theorem kparse_two (s : ByteArray) : ((kparse s).2 = 0 ∧ kright (kparse s).1 = true ∧ ktx (kparse s).1 = ns s) ∨ kparse s = (zK, 3) := by
  unfold kparse
  split
  · exact .inr rfl
  · split
    · rename_i h
      exact .inl ⟨h.1, kof_right h.1, h.2⟩
    · exact .inr rfl
theorem no47 {l : List Nat} (h : ∀ c ∈ l, c ≠ 47) : kM l = false := kM_no fun i hi e => h 47 (List.mem_of_getElem? e) rfl
theorem dig_no (n : Nat) : kM (dig n) = false := no47 fun c hc => by
  unfold dig at hc
  split at hc <;> simp at hc <;> omega
theorem txt_no {x : Nm.D.Nm} (h : Nm.D.right x = true) : kM (Nm.D.txt x) = false := no47 fun c hc => by
  have := (Nm.D.isB_iff.1 (Nm.D.txt_is h)).2.2.2 c hc
  simp [Nm.D.mayB, Nm.D.letB] at this
  omega
theorem tx_can {x : Tg} (h : right x = true) : ∃ p, Can p ∧ tb p = x ∧ tx' x = txt p := by
  have hr := h
  unfold right at h
  cases hp : pt x with
  | none => rw [hp] at h; cases h
  | some p =>
    obtain ⟨hc, e⟩ := pt_some hp
    refine ⟨p, hc, e, ?_⟩
    rw [tx', if_pos hr, ← e, spell_tb hc]
theorem tx_no {x : Tg} (h : right x = true) : kM (tx' x) = false := no47 fun c hc => by
  obtain ⟨p, hp, _, e⟩ := tx_can h
  rw [e] at hc
  obtain ⟨h1, h2, h3⟩ := can_ch hp
  unfold txt at hc
  split at hc
  · simp [rootT] at hc; omega
  · simp only [List.mem_append] at hc
    rcases hc with hc | hc | hc
    · have := h1 c hc; unfold Ch at this; omega
    · split at hc
      · cases hc
      · rcases List.mem_cons.1 hc with rfl | hc
        · decide
        · have := h2 c hc; unfold Ch at this; omega
    · split at hc
      · cases hc
      · rcases List.mem_cons.1 hc with rfl | hc
        · decide
        · have := h3 c hc; unfold Ch at this; omega
theorem tgP_tx {x : Tg} (h : right x = true) (hl : ∀ c ∈ tx' x, c < 256) : tgP (sb (tx' x)) = x := by
  obtain ⟨p, hp, e1, e⟩ := tx_can h
  unfold tgP
  rw [ns_sb hl, e, parse_txt hp]
  exact e1
theorem tx_lt {x : Tg} : ∀ c ∈ tx' x, c < 256 := fun c hc => by
  by_cases h : right x = true
  · obtain ⟨p, hp, _, e⟩ := tx_can h
    rw [e] at hc
    obtain ⟨h1, h2, h3⟩ := can_ch hp
    unfold txt at hc
    split at hc
    · simp [rootT] at hc; omega
    · simp only [List.mem_append] at hc
      rcases hc with hc | hc | hc
      · have := h1 c hc; unfold Ch at this; omega
      · split at hc
        · cases hc
        · rcases List.mem_cons.1 hc with rfl | hc
          · decide
          · have := h2 c hc; unfold Ch at this; omega
      · split at hc
        · cases hc
        · rcases List.mem_cons.1 hc with rfl | hc
          · decide
          · have := h3 c hc; unfold Ch at this; omega
  · rw [tx', if_neg h] at hc; cases hc
theorem ntx_lt {x : Nm.D.Nm} : ∀ c ∈ Nm.D.txt x, c < 256 := fun c hc => by
  unfold Nm.D.txt at hc
  split at hc
  · exact x.lt c (Nm.D.hd_mem hc)
  · cases hc
theorem nmP_tx {x : Nm.D.Nm} (h : Nm.D.right x = true) : nmP (sb (Nm.D.txt x)) = x := by
  unfold nmP
  rw [ns_sb ntx_lt, if_pos (Nm.D.txt_is h)]
  have h2 := h
  simp [Nm.D.right] at h2
  refine Nm.D.Nm.eq ?_
  show Nm.D.padl (ns (sb (Nm.D.txt x))) 12 = x.l
  rw [ns_sb ntx_lt, Nm.D.txt_yes h]
  exact congrArg Nm.D.Nm.l h2.2
theorem dig_lt {n : Nat} (h : n < 100) : ∀ c ∈ dig n, c < 256 := fun c hc => by
  unfold dig at hc
  split at hc <;> simp at hc <;> omega
theorem num_dig : ∀ {n : Nat}, n < 16 → num (sb (dig n)) = n := by
  have : ∀ n : Fin 16, num (sb (dig n.1)) = n.1 := by decide
  intro n h
  exact this ⟨n, h⟩
theorem knd_let : ∀ {k : Nat}, 1 ≤ k → k ≤ 6 → knd (sb [lets.getD (k - 1) 0]) = k := by
  have : ∀ k : Fin 6, knd (sb [lets.getD k.1 0]) = (k.1 + 1 : Nat) := by decide
  intro k h1 h2
  have := this ⟨k - 1, by omega⟩
  simp only at this
  rw [this]; omega
theorem let_no : ∀ (k : Nat), kM [lets.getD k 0] = false := fun k => by
  match k with
  | 0 => rfl
  | 1 => rfl
  | 2 => rfl
  | 3 => rfl
  | 4 => rfl
  | 5 => rfl
  | k + 6 => rfl
theorem mem_if {c : Prop} [Decidable c] {y z : List Nat} (h : z ∈ (if c then [y] else [])) : c ∧ z = y := by
  split at h
  · exact ⟨‹_›, by simpa using h⟩
  · cases h
theorem kparts_no {x : Ky} (h : kright x = true) : ∀ p ∈ kparts x, kM p = false := fun p hp => by
  simp only [kright, decide_eq_true_eq] at h
  obtain ⟨h1, h2, h3, h4, h5⟩ := err_ok h.1
  simp only [kparts, List.mem_cons, List.mem_append] at hp
  rcases hp with rfl | rfl | hp | hp | hp
  · exact let_no _
  · exact dig_no _
  · obtain ⟨_, rfl⟩ := mem_if hp; exact dig_no _
  · obtain ⟨h, rfl⟩ := mem_if hp; exact txt_no (h4 h)
  · obtain ⟨h, rfl⟩ := mem_if hp; exact tx_no (h5 h).2
theorem if_len (c : Prop) [Decidable c] (y : List Nat) : (if c then [y] else []).length ≤ 1 := by split <;> simp
theorem kparts_len (x : Ky) : 2 ≤ (kparts x).length ∧ (kparts x).length ≤ 5 := by
  have h1 := if_len (0 < ats x.k) (dig x.a)
  have h2 := if_len (nmd x.k = true) (Nm.D.txt x.n)
  have h3 := if_len (tgd x.k = true) (tx' x.t)
  simp only [kparts, List.length_cons, List.length_append]
  omega
theorem mkI_n {k p a : Int} {n : Nm.D.Nm} {t : Tg} : (mkI k p a n t).n = if nmd k then n else Nm.D.zero := mkK_n
theorem mkI_t {k p a : Int} {n : Nm.D.Nm} {t : Tg} : (mkI k p a n t).t = if tgd k then t else zero := mkK_t
theorem kof_same {k p a p' a' : Int} {n n' : Nm.D.Nm} {t t' : Tg} (h1 : p = p') (h2 : 0 < ats k → a = a') (h3 : nmd k = true → n = n') (h4 : tgd k = true → t = t') : kof k p a n t = kof k p' a' n' t' := by
  subst h1
  have e : err k p a n t = err k p a' n' t' := by
    unfold err
    congr 1
    congr 1
    · refine propext (or_congr Iff.rfl ⟨fun ⟨h, h'⟩ => ⟨h, by rw [← h2 h]; exact h'⟩, fun ⟨h, h'⟩ => ⟨h, by rw [h2 h]; exact h'⟩⟩)
    · congr 1
      · exact propext ⟨fun ⟨h, h'⟩ => ⟨h, by rw [← h3 h]; exact h'⟩, fun ⟨h, h'⟩ => ⟨h, by rw [h3 h]; exact h'⟩⟩
      · congr 1
        exact propext ⟨fun ⟨h, h'⟩ => ⟨h, by rw [← h4 h]; exact h'⟩, fun ⟨h, h'⟩ => ⟨h, by rw [h4 h]; exact h'⟩⟩
  have e2 : mkI k p a n t = mkI k p a' n' t' := by
    unfold mkI
    congr 1
    · split
      · rw [h2 ‹_›]
      · rfl
    · split
      · exact h3 ‹_›
      · rfl
    · split
      · exact h4 ‹_›
      · rfl
  unfold kof
  rw [e, e2]
theorem spld_self {x : Ky} (h : kright x = true) : spld (sb [lets.getD (x.k - 1) 0]) ((kparts x).tail.map sb) = (x, 0) := by
  have hx := h
  simp only [kright, decide_eq_true_eq] at h
  obtain ⟨h1, h2, h3, h4, h5⟩ := err_ok h.1
  have ha := ats_le x.k
  rw [← kof_self hx]
  unfold spld
  rw [knd_let (k := x.k) (by omega) (by omega)]
  have e1 : num (sb (dig x.p)) = x.p := num_dig (by omega)
  have e2 : 0 < ats x.k → num (sb (dig x.a)) = x.a := fun h0 => num_dig (by have := h3 h0; omega)
  have e3 : nmd x.k = true → nmP (sb (Nm.D.txt x.n)) = x.n := fun h0 => nmP_tx (h4 h0)
  have e4 : tgd x.k = true → tgP (sb (tx' x.t)) = x.t := fun h0 => tgP_tx (h5 h0).2 tx_lt
  simp only [kparts, List.tail_cons, List.map_cons, nx]
  by_cases g1 : 0 < ats (x.k : Int)
  · cases g2 : nmd (x.k : Int) <;> cases g3 : tgd (x.k : Int) <;> simp only [g1, if_true, if_false, decide_true, List.map_cons, List.map_append, List.map_nil, List.cons_append, List.nil_append, nx, Bool.false_eq_true] <;> refine kof_same e1 (fun _ => e2 g1) (fun h => ?_) (fun h => ?_) <;> first | exact e3 g2 | exact e4 g3 | (rw [g2] at h; cases h) | (rw [g3] at h; cases h)
  · cases g2 : nmd (x.k : Int) <;> cases g3 : tgd (x.k : Int) <;> simp only [g1, if_true, if_false, decide_false, List.map_cons, List.map_append, List.map_nil, List.cons_append, List.nil_append, nx, Bool.false_eq_true] <;> refine kof_same e1 (fun h => absurd h g1) (fun h => ?_) (fun h => ?_) <;> first | exact e3 g2 | exact e4 g3 | (rw [g2] at h; cases h) | (rw [g3] at h; cases h)
theorem jn_lt : ∀ {xs : List (List Nat)}, (∀ x ∈ xs, ∀ c ∈ x, c < 256) → ∀ c ∈ jn xs, c < 256
  | [], _, c, h => by cases h
  | [x], hx, c, h => hx x (by simp) c h
  | x :: y :: r, hx, c, h => by
    rw [jn, List.mem_append, List.mem_cons] at h
    rcases h with h | rfl | h
    · exact hx x (by simp) c h
    · decide
    · exact jn_lt (fun z hz => hx z (by simp [hz])) c h
theorem let_lt (k : Nat) : lets.getD k 0 < 256 := get_lt (by decide) k
theorem kparts_lt {x : Ky} (h : kright x = true) : ∀ p ∈ kparts x, ∀ c ∈ p, c < 256 := fun p hp => by
  simp only [kright, decide_eq_true_eq] at h
  obtain ⟨h1, h2, h3, h4, h5⟩ := err_ok h.1
  have ha := ats_le x.k
  simp only [kparts, List.mem_cons, List.mem_append] at hp
  rcases hp with rfl | rfl | hp | hp | hp
  · intro c hc; simp only [List.mem_singleton] at hc; subst hc; exact let_lt _
  · exact dig_lt (by omega)
  · obtain ⟨h, rfl⟩ := mem_if hp; exact dig_lt (by have := h3 h; omega)
  · obtain ⟨h, rfl⟩ := mem_if hp; exact ntx_lt
  · obtain ⟨h, rfl⟩ := mem_if hp; exact tx_lt
theorem ktx_lt (x : Ky) : ∀ c ∈ ktx x, c < 256 := by
  unfold ktx
  split
  · exact jn_lt (kparts_lt ‹_›)
  · intro c hc; cases hc
/-- What is told is read. -/
theorem kparse_tx {x : Ky} (h : kright x = true) : kparse (sb (ktx x)) = (x, 0) := by
  have hl := kparts_len x
  have e0 : ns (sb (ktx x)) = ktx x := ns_sb (ktx_lt x)
  have e1 : ktx x = jn (kparts x) := by rw [ktx, if_pos h]
  have e2 : spk 5 (ktx x) = kparts x := by
    rw [e1]
    exact spk_jn (by intro e; rw [e] at hl; simp at hl) (kparts_no h) (by omega)
  unfold kparse
  rw [e0, e2]
  show (if (spld (sb [lets.getD (x.k - 1) 0]) ((kparts x).tail.map sb)).2 = 0 ∧ ktx (spld (sb [lets.getD (x.k - 1) 0]) ((kparts x).tail.map sb)).1 = ktx x then spld (sb [lets.getD (x.k - 1) 0]) ((kparts x).tail.map sb) else (zK, 3)) = (x, 0)
  rw [spld_self h, if_pos ⟨rfl, rfl⟩]
theorem ktx_nil (x : Ky) : ktx x = [] ↔ kright x = false := by
  unfold ktx
  cases hr : kright x with
  | true =>
    rw [if_pos rfl]
    constructor
    · intro h
      simp only [kparts, jn] at h
      cases h
    · intro h; cases h
  | false => exact ⟨fun _ => rfl, fun _ => rfl⟩
end D
end Go.Proofs.Ytkhjnfplcaffnaa
