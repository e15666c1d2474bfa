/-
  Tags as ten plain numbers: of which parts they are, their texts, parents and chains. No program is spoken of.
-/
import Derived.Test.YtnggojnfppehpaaNam
set_option linter.unusedVariables false
set_option linter.unusedSimpArgs false
namespace Go.Proofs.Ytnggojnfppehpaa
namespace D

/-- Ten bytes. -/
structure Tg where
  l : List Nat
  len : l.length = 10
  lt : ∀ b ∈ l, b < 256
theorem Tg.eq {x y : Tg} (h : x.l = y.l) : x = y := by cases x; cases y; simp at h; subst h; rfl
instance : DecidableEq Tg := fun x y => if h : x.l = y.l then .isTrue (Tg.eq h) else .isFalse fun e => h (by rw [e])
def padn (l : List Nat) (n : Nat) : List Nat := (l ++ List.replicate n 0).take n
theorem padn_len (l : List Nat) (n : Nat) : (padn l n).length = n := by simp [padn]
def tbl (p : Pt) : List Nat := padn p.l 3 ++ (padn p.s 4 ++ padn p.r 3)
theorem tbl_len (p : Pt) : (tbl p).length = 10 := by simp [tbl, padn_len]
def tb (p : Pt) : Tg := ⟨(tbl p).map (· % 256), by simp [tbl_len], by
  intro b hb
  obtain ⟨a, _, rfl⟩ := List.mem_map.1 hb
  exact Nat.mod_lt _ (by decide)⟩
def zero : Tg := tb rt
theorem zero_l : zero.l = List.replicate 10 0 := rfl
/-- Bytes up to those that are 0 at the end. -/
def front (l : List Nat) : List Nat := (l.reverse.dropWhile (· == 0)).reverse
/-- Bytes ahead of the first 0. -/
def hd0 (l : List Nat) : List Nat := l.takeWhile (· != 0)
def pl (x : Tg) : List Nat := x.l.take 3
def ps (x : Tg) : List Nat := (x.l.drop 3).take 4
def pr (x : Tg) : List Nat := x.l.drop 7
def frt (x : Tg) : Pt := ⟨front (pl x), front (ps x), front (pr x)⟩
def hds (x : Tg) : Pt := ⟨hd0 (pl x), hd0 (ps x), hd0 (pr x)⟩
def join : List (List Nat) → List Nat
  | [] => []
  | [x] => x
  | x :: y :: r => x ++ 45 :: join (y :: r)
/-- The parts that are not empty. -/
def some3 (p : Pt) : List (List Nat) := (if p.l = [] then [] else [p.l]) ++ ((if p.s = [] then [] else [p.s]) ++ (if p.r = [] then [] else [p.r]))
def spell (x : Tg) : List Nat := if x = zero then rootT else join (some3 (hds x))
/-- The parts of a right tag. -/
def pt (x : Tg) : Option Pt := match parse (spell x) with
  | none => none
  | some p => if tb p = x then some p else none

theorem ch_lt {l : List Nat} (h : ∀ c ∈ l, Ch c) : ∀ c ∈ l, c < 256 := fun c hc => by have := h c hc; unfold Ch at this; omega
theorem can_ch {p : Pt} (h : Can p) : (∀ c ∈ p.l, Ch c) ∧ (∀ c ∈ p.s, Ch c) ∧ (∀ c ∈ p.r, Ch c) := by
  rcases h with rfl | ⟨hl, hs, hr⟩
  · refine ⟨?_, ?_, ?_⟩ <;> (intro c h; cases h)
  · refine ⟨okL_ch hl, ?_, ?_⟩
    · rcases hs with e | hs
      · rw [e]; exact fun c h => by cases h
      · exact okS_ch hs
    · rcases hr with e | hr
      · rw [e]; exact fun c h => by cases h
      · exact okR_ch hr
theorem can_len {p : Pt} (h : Can p) : p.l.length ≤ 3 ∧ p.s.length ≤ 4 ∧ p.r.length ≤ 3 := by
  rcases h with rfl | ⟨hl, hs, hr⟩
  · decide
  · refine ⟨by have := (isL_iff.1 hl.1).1; omega, ?_, ?_⟩
    · rcases hs with e | hs
      · rw [e]; decide
      · have := (isS_iff.1 hs.1).1; omega
    · rcases hr with e | hr
      · rw [e]; decide
      · rcases isR_iff.1 hr.1 with h | h <;> omega
theorem padn_eq {l : List Nat} {n : Nat} (h : l.length ≤ n) : padn l n = l ++ List.replicate (n - l.length) 0 := by
  unfold padn
  rw [List.take_append, List.take_of_length_le h, List.take_replicate, Nat.min_eq_left (by omega)]
theorem mem_padn {l : List Nat} {n c : Nat} (h : c ∈ padn l n) : c ∈ l ∨ c = 0 := by
  have := List.mem_of_mem_take h
  rcases List.mem_append.1 this with h | h
  · exact .inl h
  · exact .inr (List.eq_of_mem_replicate h)
theorem tbl_lt {p : Pt} (hl : ∀ c ∈ p.l, c < 256) (hs : ∀ c ∈ p.s, c < 256) (hr : ∀ c ∈ p.r, c < 256) : ∀ c ∈ tbl p, c < 256 := by
  intro c hc
  unfold tbl at hc
  rcases List.mem_append.1 hc with h | h
  · rcases mem_padn h with h | rfl
    · exact hl c h
    · decide
  · rcases List.mem_append.1 h with h | h
    · rcases mem_padn h with h | rfl
      · exact hs c h
      · decide
    · rcases mem_padn h with h | rfl
      · exact hr c h
      · decide
theorem map_mod {l : List Nat} (h : ∀ c ∈ l, c < 256) : l.map (· % 256) = l := by
  have : ∀ c ∈ l, (fun x => x % 256) c = id c := fun c hc => Nat.mod_eq_of_lt (h c hc)
  rw [List.map_congr_left this, List.map_id]
theorem tb_l {p : Pt} (hl : ∀ c ∈ p.l, c < 256) (hs : ∀ c ∈ p.s, c < 256) (hr : ∀ c ∈ p.r, c < 256) : (tb p).l = tbl p := map_mod (tbl_lt hl hs hr)
theorem can_tb {p : Pt} (h : Can p) : (tb p).l = tbl p := by
  obtain ⟨a, b, c⟩ := can_ch h
  exact tb_l (ch_lt a) (ch_lt b) (ch_lt c)
theorem parts_tb {p : Pt} (h : Can p) : pl (tb p) = padn p.l 3 ∧ ps (tb p) = padn p.s 4 ∧ pr (tb p) = padn p.r 3 := by
  unfold pl ps pr
  rw [can_tb h, tbl]
  have e1 := padn_len p.l 3
  have e2 := padn_len p.s 4
  refine ⟨?_, ?_, ?_⟩
  · rw [List.take_append_of_le_length (by omega), List.take_of_length_le (by omega)]
  · rw [List.drop_append_of_le_length (by omega), List.drop_of_length_le (by omega), List.nil_append, List.take_append_of_le_length (by omega), List.take_of_length_le (by omega)]
  · rw [← List.append_assoc, List.drop_append_of_le_length (by simp; omega), List.drop_of_length_le (by simp; omega), List.nil_append]
theorem front_padn {l : List Nat} {n : Nat} (h : l.length ≤ n) (hc : ∀ c ∈ l, Ch c) : front (padn l n) = l := by
  rw [padn_eq h]
  unfold front
  rw [List.reverse_append, List.reverse_replicate, List.dropWhile_append]
  have e : List.dropWhile (fun x => x == 0) (List.replicate (n - l.length) 0) = [] := by
    rw [List.dropWhile_replicate]; simp
  rw [e]
  simp only [List.isEmpty_nil, if_true]
  have : List.dropWhile (fun x => x == 0) l.reverse = l.reverse := by
    cases hl : l.reverse with
    | nil => rfl
    | cons c t =>
      have : c ∈ l := by rw [← List.mem_reverse, hl]; simp
      have := hc c this
      unfold Ch at this
      rw [List.dropWhile_cons_of_neg (by simp; omega)]
  rw [this, List.reverse_reverse]
theorem hd0_padn {l : List Nat} {n : Nat} (h : l.length ≤ n) (hc : ∀ c ∈ l, Ch c) : hd0 (padn l n) = l := by
  rw [padn_eq h]
  unfold hd0
  rw [List.takeWhile_append_of_pos (fun c hm => by have := hc c hm; unfold Ch at this; simp; omega)]
  have : List.takeWhile (fun x => x != 0) (List.replicate (n - l.length) 0) = [] := by
    cases n - l.length with
    | zero => rfl
    | succ k => rw [List.replicate_succ, List.takeWhile_cons_of_neg (by simp)]
  rw [this, List.append_nil]
theorem frt_tb {p : Pt} (h : Can p) : frt (tb p) = p := by
  obtain ⟨a, b, c⟩ := parts_tb h
  obtain ⟨d, e, f⟩ := can_ch h
  obtain ⟨l1, l2, l3⟩ := can_len h
  unfold frt
  rw [a, b, c, front_padn l1 d, front_padn l2 e, front_padn l3 f]
theorem hds_tb {p : Pt} (h : Can p) : hds (tb p) = p := by
  obtain ⟨a, b, c⟩ := parts_tb h
  obtain ⟨d, e, f⟩ := can_ch h
  obtain ⟨l1, l2, l3⟩ := can_len h
  unfold hds
  rw [a, b, c, hd0_padn l1 d, hd0_padn l2 e, hd0_padn l3 f]
theorem tb_inj {p q : Pt} (h : Can p) (k : Can q) (e : tb p = tb q) : p = q := by rw [← frt_tb h, e, frt_tb k]
theorem padn_front {l : List Nat} {n : Nat} (h : l.length = n) : padn (front l) n = l := by
  have key : ∀ k : List Nat, List.dropWhile (fun x => x == 0) k = k.drop (k.length - (List.dropWhile (fun x => x == 0) k).length) ∧ k.take (k.length - (List.dropWhile (fun x => x == 0) k).length) = List.replicate (k.length - (List.dropWhile (fun x => x == 0) k).length) 0 ∧ (List.dropWhile (fun x => x == 0) k).length ≤ k.length := by
    intro k
    induction k with
    | nil => exact ⟨rfl, rfl, Nat.le_refl _⟩
    | cons c t ih =>
      by_cases hc : c = 0
      · subst hc
        obtain ⟨i1, i2, i3⟩ := ih
        rw [List.dropWhile_cons_of_pos (by rfl)]
        have e : (0 :: t).length - (List.dropWhile (fun x => x == 0) t).length = (t.length - (List.dropWhile (fun x => x == 0) t).length) + 1 := by simp; omega
        rw [e, List.drop_succ_cons, List.take_succ_cons, List.replicate_succ]
        exact ⟨i1, by rw [i2], by simp; omega⟩
      · rw [List.dropWhile_cons_of_neg (by simpa using hc)]
        simp
  obtain ⟨k1, k2, k3⟩ := key l.reverse
  have hk : (front l).length = (List.dropWhile (fun x => x == 0) l.reverse).length := by simp [front]
  rw [List.length_reverse] at k3
  rw [padn_eq (by omega)]
  have : l.reverse = List.replicate (n - (front l).length) 0 ++ List.dropWhile (fun x => x == 0) l.reverse := by
    have := (List.take_append_drop (l.reverse.length - (List.dropWhile (fun x => x == 0) l.reverse).length) l.reverse).symm
    rw [k2, ← k1] at this
    rw [hk, ← h, ← List.length_reverse]
    exact this
  have h2 := congrArg List.reverse this
  rw [List.reverse_reverse, List.reverse_append, List.reverse_replicate] at h2
  exact h2.symm
theorem front_mem {l : List Nat} {c : Nat} (h : c ∈ front l) : c ∈ l := by
  have := (List.dropWhile_suffix (fun x => x == 0) (l := l.reverse)).mem (List.mem_reverse.1 h)
  simpa using this
theorem frt_lt (x : Tg) : (∀ c ∈ (frt x).l, c < 256) ∧ (∀ c ∈ (frt x).s, c < 256) ∧ (∀ c ∈ (frt x).r, c < 256) :=
  ⟨fun c h => x.lt c (List.mem_of_mem_take (front_mem h)), fun c h => x.lt c (List.mem_of_mem_drop (List.mem_of_mem_take (front_mem h))), fun c h => x.lt c (List.mem_of_mem_drop (front_mem h))⟩
theorem tb_frt (x : Tg) : tb (frt x) = x := by
  obtain ⟨a, b, c⟩ := frt_lt x
  refine Tg.eq ?_
  rw [tb_l a b c, tbl]
  have hl := x.len
  simp only [frt]
  rw [padn_front (n := 3) (by simp [pl]; omega), padn_front (n := 4) (by simp [ps]; omega), padn_front (n := 3) (by simp [pr]; omega)]
  simp only [pl, ps, pr]
  rw [show x.l.drop 7 = (x.l.drop 3).drop 4 by rw [List.drop_drop], List.take_append_drop, List.take_append_drop]

theorem join_some3 {p : Pt} (h : p.l ≠ []) : join (some3 p) = txt p := by
  unfold some3 txt
  rw [if_neg h, if_neg h]
  by_cases hs : p.s = [] <;> by_cases hr : p.r = [] <;> simp [hs, hr, join]
theorem spell_tb {p : Pt} (h : Can p) : spell (tb p) = txt p := by
  unfold spell
  rw [hds_tb h]
  by_cases hz : p = rt
  · subst hz
    rw [if_pos (show tb rt = zero from rfl)]; rfl
  · rw [if_neg (fun e : tb p = zero => hz (tb_inj h (.inl rfl) e)), join_some3]
    rcases h with rfl | ⟨hl, _⟩
    · exact absurd rfl hz
    · exact okL_ne hl
theorem pt_tb {p : Pt} (h : Can p) : pt (tb p) = some p := by
  unfold pt
  rw [spell_tb h, parse_txt h]
  simp
theorem pt_some {x : Tg} {p : Pt} (h : pt x = some p) : Can p ∧ tb p = x := by
  unfold pt at h
  split at h
  · cases h
  · rename_i q hq
    split at h
    · rename_i he
      injection h with h
      subst h
      exact ⟨parse_can hq, he⟩
    · cases h
def right (x : Tg) : Bool := (pt x).isSome
/-- The document's way. -/
def rof (x : Tg) : Option Pt := if (frt x).l = [] then (if frt x = rt then some rt else none) else match parse (txt (frt x)) with
  | none => none
  | some q => if q = frt x then some (frt x) else none
theorem rof_eq (x : Tg) : rof x = pt x := by
  cases h : pt x with
  | some p =>
    obtain ⟨hc, rfl⟩ := pt_some h
    unfold rof
    rw [frt_tb hc]
    split
    · rename_i hl
      rcases hc with rfl | ⟨h1, _⟩
      · rfl
      · exact absurd hl (okL_ne h1)
    · rw [parse_txt hc]
      simp
  | none =>
    unfold rof
    have hn : ∀ p, Can p → tb p ≠ x := fun p hp e => by rw [← e, pt_tb hp] at h; cases h
    split
    · rw [if_neg]
      intro e
      exact hn rt (.inl rfl) (by rw [← e]; exact tb_frt x)
    · split
      · rfl
      · rename_i q hq
        rw [if_neg]
        intro e
        exact hn q (parse_can hq) (by rw [e]; exact tb_frt x)

/-- Parents and chains. -/
def par (p : Pt) : Option Pt := if p = rt then none else if p.r ≠ [] then some ⟨p.l, p.s, []⟩ else if p.s ≠ [] then some ⟨p.l, [], []⟩ else some rt
def c1 (p : Pt) : List Pt := if p.l ≠ [] then [rt] else []
def c2 (p : Pt) : List Pt := (if p.s ≠ [] then [⟨p.l, [], p.r⟩] else []) ++ c1 p
def chain (p : Pt) : List Pt := p :: ((if p.r ≠ [] then [⟨p.l, p.s, []⟩] else []) ++ ((if p.s ≠ [] then [⟨p.l, [], []⟩] else []) ++ c1 p))
theorem can_par {p q : Pt} (h : Can p) (e : par p = some q) : Can q := by
  unfold par at e
  rcases h with rfl | ⟨hl, hs, hr⟩
  · simp at e
  · split at e
    · cases e
    · split at e
      · injection e with e; subst e; exact .inr ⟨hl, hs, .inl rfl⟩
      · split at e
        · injection e with e; subst e; exact .inr ⟨hl, .inl rfl, .inl rfl⟩
        · injection e with e; subst e; exact .inl rfl
theorem par_none {p : Pt} : par p = none ↔ p = rt := by
  unfold par
  split
  · simp [*]
  · rename_i h
    split
    · simp [h]
    · split <;> simp [h]
theorem can_r {p : Pt} (h : Can p) (e : p.l = []) : p = rt := by
  rcases h with rfl | ⟨hl, _⟩
  · rfl
  · exact absurd e (okL_ne hl)
theorem chain_rt : chain rt = [rt] := rfl
theorem chain_par {p q : Pt} (h : Can p) (e : par p = some q) : chain p = p :: chain q := by
  have hl : p.l ≠ [] := fun hl => by rw [can_r h hl] at e; cases e
  obtain ⟨l, s, r⟩ := p
  simp only at hl
  unfold par at e
  rw [if_neg (fun h => hl (by rw [show (Pt.mk l s r).l = l from rfl] at *; exact congrArg Pt.l h))] at e
  by_cases hr : r = []
  · subst hr
    by_cases hs : s = []
    · subst hs
      simp at e
      subst e
      simp [chain, c1, hl, rt]
    · simp [hs] at e
      subst e
      simp [chain, c1, hl, hs]
  · simp [hr] at e
    subst e
    by_cases hs : s = []
    · subst hs
      simp [chain, c1, hl, hr]
    · simp [chain, c1, hl, hs, hr]
theorem chain_can {p : Pt} (h : Can p) : ∀ q ∈ chain p, Can q := by
  intro q hq
  obtain ⟨l, s, r⟩ := p
  rcases h with e | ⟨hl, hs, hr⟩
  · rw [e] at hq
    simp [chain_rt] at hq
    subst hq
    exact .inl rfl
  · simp only at hl hs hr
    simp only [chain, c1, List.mem_cons, List.mem_append] at hq
    rcases hq with rfl | hq | hq | hq
    · exact .inr ⟨hl, hs, hr⟩
    · split at hq
      · simp at hq; subst hq; exact .inr ⟨hl, hs, .inl rfl⟩
      · cases hq
    · split at hq
      · simp at hq; subst hq; exact .inr ⟨hl, .inl rfl, .inl rfl⟩
      · cases hq
    · split at hq
      · simp at hq; subst hq; exact .inl rfl
      · cases hq
theorem chain_len (p : Pt) : 1 ≤ (chain p).length ∧ (chain p).length ≤ 4 := by
  by_cases hl : p.l = [] <;> by_cases hs : p.s = [] <;> by_cases hr : p.r = [] <;> simp [chain, c1, hl, hs, hr]
theorem chain_last {p : Pt} (h : Can p) : (chain p)[(chain p).length - 1]? = some rt := by
  obtain ⟨l, s, r⟩ := p
  by_cases hl : l = []
  · rw [can_r h hl]; rfl
  · by_cases hs : s = [] <;> by_cases hr : r = [] <;> simp [chain, c1, hl, hs, hr]
/-- The chain of ten bytes. -/
def cht (x : Tg) : List Tg := match pt x with
  | none => []
  | some p => (chain p).map tb
theorem cht_tb {p : Pt} (h : Can p) : cht (tb p) = (chain p).map tb := by unfold cht; rw [pt_tb h]
theorem cht_no {x : Tg} (h : pt x = none) : cht x = [] := by unfold cht; rw [h]
theorem cht_len (x : Tg) : (cht x).length ≤ 4 := by
  unfold cht
  split
  · simp
  · simp; exact (chain_len _).2
def find (l : List Tg) (k : List Tg) : Option Tg := l.find? (fun x => decide (x ∈ k))
def tpar (x : Tg) : Tg × Bool := match pt x with
  | none => (zero, false)
  | some p => match par p with
    | none => (zero, false)
    | some q => (tb q, true)
/-- Pieces, so many at most. -/
def spn : Nat → List Nat → List (List Nat)
  | 0, t => [t]
  | k + 1, t => if cutM t then cutP t :: spn k (cutR t) else [t]
theorem spn_more : ∀ (k : Nat) (t : List Nat), t.length ≤ k → ∀ j, spn (k + j) t = spn k t
  | 0, t, h, j => by
    have : t = [] := List.eq_nil_of_length_eq_zero (by omega)
    subst this
    cases j <;> rfl
  | k + 1, t, h, j => by
    rw [show k + 1 + j = (k + j) + 1 by omega, spn, spn]
    split
    · rename_i hm
      rw [spn_more k (cutR t) (by have := cutR_lt hm; omega) j]
    · rfl
end D
end Go.Proofs.Ytnggojnfppehpaa
