/-
  
-/

set_option linter.unusedVariables false
set_option linter.unusedSimpArgs false
namespace Go.Proofs.YtgnjjlgmlokhmaaGreatDoor
namespace D

def ns (s : ByteArray) : List Nat := s.data.toList.map (·.toNat)
def sb (l : List Nat) : ByteArray := ⟨(l.map UInt8.ofNat).toArray⟩
theorem ns_len (s : ByteArray) : (ns s).length = s.size := by simp [ns]
theorem ns_lt (s : ByteArray) : ∀ b ∈ ns s, b < 256 := by
 intro b hb
 obtain ⟨u, _, rfl⟩ := List.mem_map.1 hb
 exact u.toNat_lt
theorem sb_ns (s : ByteArray) : sb (ns s) = s := by
 have e : (UInt8.ofNat ∘ fun x : UInt8 => x.toNat) = id := by funext x; simp
 have : (ns s).map UInt8.ofNat = s.data.toList := by rw [ns, List.map_map, e, List.map_id]
 rw [sb, this]
theorem ns_sb {l : List Nat} (h : ∀ b ∈ l, b < 256) : ns (sb l) = l := by
 simp only [ns, sb, List.map_map]
 have : ∀ b ∈ l, ((fun u : UInt8 => u.toNat) ∘ UInt8.ofNat) b = id b := fun b hb => by
  have := h b hb
  simp; omega
 rw [List.map_congr_left this, List.map_id]
theorem sb_len (l : List Nat) : (sb l).size = l.length := by simp [sb, ByteArray.size]
theorem ns_inj {s t : ByteArray} (h : ns s = ns t) : s = t := by rw [<- sb_ns s, h, sb_ns]
theorem sb_inj {l k : List Nat} (hl : ∀ b ∈ l, b < 256) (hk : ∀ b ∈ k, b < 256) (h : sb l = sb k) : l = k := by rw [<- ns_sb hl, h, ns_sb hk]

def letB (c : Nat) : Bool := decide ((97 <= c ∧ c <= 122) ∨ (65 <= c ∧ c <= 90))
def digB (c : Nat) : Bool := decide (48 <= c ∧ c <= 57)
def lowB (c : Nat) : Nat := if 65 <= c ∧ c <= 90 then c + 32 else c
def upB (c : Nat) : Nat := if 97 <= c ∧ c <= 122 then c - 32 else c
def low (l : List Nat) : List Nat := l.map lowB
def up (l : List Nat) : List Nat := l.map upB
def cap (l : List Nat) : List Nat := up (l.take 1) ++ low (l.drop 1)
def allL (t : List Nat) : Bool := t.all letB
def allD (t : List Nat) : Bool := t.all digB
def isL (t : List Nat) : Bool := (t.length == 2 || t.length == 3) && allL t
def isS (t : List Nat) : Bool := t.length == 4 && allL t
def isR (t : List Nat) : Bool := t.length == 2 && allL t || t.length == 3 && allD t
theorem low_len (l : List Nat) : (low l).length = l.length := by simp [low]
theorem up_len (l : List Nat) : (up l).length = l.length := by simp [up]
theorem cap_len (l : List Nat) : (cap l).length = l.length := by simp [cap, up, low]; omega
theorem letB_low (c : Nat) : letB (lowB c) = letB c := by
 unfold letB lowB
 rw [Bool.eq_iff_iff]
 split <;> simp only [decide_eq_true_eq] <;> omega
theorem letB_up (c : Nat) : letB (upB c) = letB c := by
 unfold letB upB
 rw [Bool.eq_iff_iff]
 split <;> simp only [decide_eq_true_eq] <;> omega
theorem digB_up (c : Nat) : digB (upB c) = digB c := by
 unfold digB upB
 rw [Bool.eq_iff_iff]
 split <;> simp only [decide_eq_true_eq] <;> omega
theorem lowB_low (c : Nat) : lowB (lowB c) = lowB c := by unfold lowB; split <;> (try split) <;> omega
theorem upB_up (c : Nat) : upB (upB c) = upB c := by unfold upB; split <;> (try split) <;> omega
theorem allL_low (l : List Nat) : allL (low l) = allL l := by simp [allL, low, List.all_map, Function.comp_def, letB_low]
theorem allL_up (l : List Nat) : allL (up l) = allL l := by simp [allL, up, List.all_map, Function.comp_def, letB_up]
theorem allD_up (l : List Nat) : allD (up l) = allD l := by simp [allD, up, List.all_map, Function.comp_def, digB_up]
theorem allL_app (l k : List Nat) : allL (l ++ k) = (allL l && allL k) := by simp [allL]
theorem low_low (l : List Nat) : low (low l) = low l := by simp [low, Function.comp_def, lowB_low]
theorem up_up (l : List Nat) : up (up l) = up l := by simp [up, Function.comp_def, upB_up]
theorem allL_cap (l : List Nat) : allL (cap l) = allL l := by
 rw [cap, allL_app, allL_up, allL_low, <- allL_app, List.take_append_drop]
theorem cap_cap (l : List Nat) : cap (cap l) = cap l := by
 cases l with
 | nil => rfl
 | cons c t =>
  show cap (up [c] ++ low t) = up [c] ++ low t
  show up [upB c] ++ low (low t) = up [c] ++ low t
  rw [low_low]
  simp [up, upB_up]
theorem isL_low (l : List Nat) : isL (low l) = isL l := by simp only [isL, low_len, allL_low]
theorem isS_cap (l : List Nat) : isS (cap l) = isS l := by simp only [isS, cap_len, allL_cap]
theorem isR_up (l : List Nat) : isR (up l) = isR l := by simp only [isR, up_len, allL_up, allD_up]
theorem isL_iff {l : List Nat} : isL l = true ↔ (l.length = 2 ∨ l.length = 3) ∧ allL l = true := by simp [isL]
theorem isS_iff {l : List Nat} : isS l = true ↔ l.length = 4 ∧ allL l = true := by simp [isS]
theorem isR_iff {l : List Nat} : isR l = true ↔ (l.length = 2 ∧ allL l = true) ∨ (l.length = 3 ∧ allD l = true) := by simp [isR]
def Ch (c : Nat) : Prop := 48 <= c ∧ c <= 122
theorem ch_L {l : List Nat} (h : allL l = true) : ∀ c ∈ l, Ch c := fun c hc => by
 have := List.all_eq_true.1 h c hc
 simp [letB] at this
 unfold Ch; omega
theorem ch_D {l : List Nat} (h : allD l = true) : ∀ c ∈ l, Ch c := fun c hc => by
 have := List.all_eq_true.1 h c hc
 simp [digB] at this
 unfold Ch; omega
theorem ch_R {l : List Nat} (h : isR l = true) : ∀ c ∈ l, Ch c := by
 rcases isR_iff.1 h with ⟨_, h⟩ | ⟨_, h⟩
 ·exact ch_L h
 ·exact ch_D h

structure Pt where
 l : List Nat
 s : List Nat
 r : List Nat
 deriving DecidableEq
def rt : Pt := ⟨[], [], []⟩
def rootT : List Nat := [114, 111, 111, 116]

def spl : List Nat -> List (List Nat)
 | [] => [[]]
 | c :: t => if c = 45 then [] :: spl t else match spl t with
  | [] => [[c]]
  | p :: ps => (c :: p) :: ps
def cutP : List Nat -> List Nat
 | [] => []
 | c :: t => if c = 45 then [] else c :: cutP t
def cutR : List Nat -> List Nat
 | [] => []
 | c :: t => if c = 45 then t else cutR t
def cutM (t : List Nat) : Bool := t.contains 45
theorem spl_cut : ∀ t, spl t = cutP t :: (if cutM t then spl (cutR t) else [])
 | [] => rfl
 | c :: t => by
  rw [spl, cutP, cutR]
  by_cases h : c = 45
  ·subst h
   simp [cutM]
  ·rw [if_neg h, if_neg h, if_neg h, spl_cut t]
   have : cutM (c :: t) = cutM t := by
    simp only [cutM, List.contains_cons]
    rw [show ((45 : Nat) == c) = false by simp; omega, Bool.false_or]
   rw [this]
theorem cut_none : ∀ t, cutM t = false -> cutP t = t ∧ cutR t = []
 | [], _ => ⟨rfl, rfl⟩
 | c :: t, h => by
  simp only [cutM, List.contains_cons, Bool.or_eq_false_iff] at h
  have hc : ¬ c = 45 := by have := h.1; simp at this; omega
  obtain ⟨h1, h2⟩ := cut_none t h.2
  rw [cutP, cutR, if_neg hc, if_neg hc, h1, h2]
  exact ⟨rfl, rfl⟩
theorem cut_at : ∀ {t : List Nat} {k : Nat}, t[k]? = some 45 -> (∀ i, i < k -> t[i]? ≠ some 45) -> cutP t = t.take k ∧ cutR t = t.drop (k + 1) ∧ cutM t = true
 | [], k, h, _ => by simp at h
 | c :: t, 0, h, _ => by
  simp at h
  subst h
  simp [cutP, cutR, cutM]
 | c :: t, k + 1, h, hn => by
  have hc : ¬ c = 45 := fun e => hn 0 (by omega) (by simp [e])
  obtain ⟨h1, h2, h3⟩ := cut_at (t := t) (k := k) (by simpa using h) (fun i hi => by have := hn (i + 1) (by omega); simpa using this)
  rw [cutP, cutR, if_neg hc, if_neg hc, h1, h2]
  refine ⟨rfl, rfl, ?_⟩
  simp only [cutM, List.contains_cons] at h3 ⊢
  rw [h3, Bool.or_true]
theorem cutM_no {t : List Nat} (h : ∀ i, i < t.length -> t[i]? ≠ some 45) : cutM t = false := by
 cases e : cutM t
 ·rfl
 ·simp only [cutM, List.contains_iff_mem] at e
  obtain ⟨i, hi, he⟩ := List.getElem_of_mem e
  exact absurd (by rw [List.getElem?_eq_getElem hi, he]) (h i hi)
theorem cutR_lt {t : List Nat} (h : cutM t = true) : (cutR t).length < t.length := by
 induction t with
 | nil => simp [cutM] at h
 | cons c t ih =>
  rw [cutR]
  split
  ·simp
  ·rename_i hc
   simp only [cutM, List.contains_cons] at h
   rw [show ((45 : Nat) == c) = false by simp; omega, Bool.false_or] at h
   have := ih h
   simp; omega
theorem cutP_len (t : List Nat) : (cutP t).length <= t.length := by
 induction t with
 | nil => simp [cutP]
 | cons a t ih => rw [cutP]; split <;> simp; exact ih

def step (t : Pt) (p : List Nat) : Option Pt := if isS p && t.s == [] && t.r == [] then some ⟨t.l, cap p, t.r⟩ else if isR p && t.r == [] then some ⟨t.l, t.s, up p⟩ else none
def foldP (t : Pt) : List (List Nat) -> Option Pt
 | [] => some t
 | p :: ps => match step t p with
  | none => none
  | some u => foldP u ps
def parse (s : List Nat) : Option Pt := if s = rootT then some rt else if isL (cutP s) then (if cutM s then foldP ⟨low (cutP s), [], []⟩ (spl (cutR s)) else some ⟨low (cutP s), [], []⟩) else none

def okL (l : List Nat) : Prop := isL l = true ∧ low l = l
def okS (l : List Nat) : Prop := isS l = true ∧ cap l = l
def okR (l : List Nat) : Prop := isR l = true ∧ up l = l
def Can (p : Pt) : Prop := p = rt ∨ okL p.l ∧ (p.s = [] ∨ okS p.s) ∧ (p.r = [] ∨ okR p.r)
def Can1 (p : Pt) : Prop := okL p.l ∧ (p.s = [] ∨ okS p.s) ∧ (p.r = [] ∨ okR p.r)
theorem ok_low {l : List Nat} (h : isL l = true) : okL (low l) := ⟨by rw [isL_low]; exact h, low_low l⟩
theorem ok_cap {l : List Nat} (h : isS l = true) : okS (cap l) := ⟨by rw [isS_cap]; exact h, cap_cap l⟩
theorem ok_up {l : List Nat} (h : isR l = true) : okR (up l) := ⟨by rw [isR_up]; exact h, up_up l⟩
theorem step_can {t u : Pt} {p : List Nat} (h : Can1 t) (e : step t p = some u) : Can1 u := by
 unfold step at e
 split at e
 ·rename_i hc
  simp only [Bool.and_eq_true, beq_iff_eq] at hc
  injection e with e
  subst e
  exact ⟨h.1, .inr (ok_cap hc.1.1), h.2.2⟩
 ·split at e
  ·rename_i hc
   simp only [Bool.and_eq_true, beq_iff_eq] at hc
   injection e with e
   subst e
   exact ⟨h.1, h.2.1, .inr (ok_up hc.1)⟩
  ·cases e
theorem fold_can : ∀ {ps : List (List Nat)} {t u : Pt}, Can1 t -> foldP t ps = some u -> Can1 u
 | [], t, u, h, e => by injection e with e; subst e; exact h
 | p :: ps, t, u, h, e => by
  rw [foldP] at e
  cases hs : step t p with
  | none => rw [hs] at e; cases e
  | some v => rw [hs] at e; exact fold_can (step_can h hs) e
theorem parse_can {s : List Nat} {p : Pt} (h : parse s = some p) : Can p := by
 unfold parse at h
 split at h
 ·injection h with h; exact .inl h.symm
 ·split at h
  ·rename_i hl
   have h0 : Can1 ⟨low (cutP s), [], []⟩ := ⟨ok_low hl, .inl rfl, .inl rfl⟩
   split at h
   ·exact .inr (fold_can h0 h)
   ·injection h with h; subst h; exact .inr h0
  ·cases h

def txt (p : Pt) : List Nat := if p.l = [] then rootT else p.l ++ ((if p.s = [] then [] else 45 :: p.s) ++ (if p.r = [] then [] else 45 :: p.r))
theorem no45 {l : List Nat} (h : ∀ c ∈ l, Ch c) : cutM l = false := cutM_no fun i hi e => by
 have := h 45 (List.mem_of_getElem? e)
 unfold Ch at this; omega
theorem cut_app : ∀ {a b : List Nat}, cutM a = false -> cutP (a ++ 45 :: b) = a ∧ cutR (a ++ 45 :: b) = b ∧ cutM (a ++ 45 :: b) = true
 | [], b, _ => by simp [cutP, cutR, cutM]
 | c :: a, b, h => by
  simp only [cutM, List.contains_cons, Bool.or_eq_false_iff] at h
  have hc : ¬ c = 45 := by have := h.1; simp at this; omega
  obtain ⟨h1, h2, h3⟩ := cut_app (a := a) (b := b) h.2
  rw [List.cons_append, cutP, cutR, if_neg hc, if_neg hc, h1, h2]
  refine ⟨rfl, rfl, ?_⟩
  simp only [cutM, List.contains_cons] at h3 ⊢
  rw [h3, Bool.or_true]
theorem okL_ch {l : List Nat} (h : okL l) : ∀ c ∈ l, Ch c := ch_L (isL_iff.1 h.1).2
theorem okS_ch {l : List Nat} (h : okS l) : ∀ c ∈ l, Ch c := ch_L (isS_iff.1 h.1).2
theorem okR_ch {l : List Nat} (h : okR l) : ∀ c ∈ l, Ch c := ch_R h.1
theorem okL_ne {l : List Nat} (h : okL l) : l ≠ [] := by
 rintro rfl
 have := (isL_iff.1 h.1).1
 simp at this
theorem isR_not_isS {l : List Nat} (h : isR l = true) : isS l = false := by
 cases e : isS l
 ·rfl
 ·have h1 := (isS_iff.1 e).1
  rcases isR_iff.1 h with ⟨h2, _⟩ | ⟨h2, _⟩ <;> omega
theorem parse_txt {p : Pt} (h : Can p) : parse (txt p) = some p := by
 rcases h with rfl | ⟨hl, hs, hr⟩
 ·rfl
 ·obtain ⟨l, s, r⟩ := p
  simp only at hl hs hr
  have h1 := no45 (okL_ch hl)
  have hll := (isL_iff.1 hl.1).1
  have stepR : ∀ s, okR r -> step ⟨l, s, []⟩ r = some ⟨l, s, r⟩ := fun s hr => by
   unfold step
   rw [isR_not_isS hr.1]
   simp [hr.1, hr.2]
  have splR : okR r -> spl r = [r] := fun hr => by
   rw [spl_cut, no45 (okR_ch hr), (cut_none r (no45 (okR_ch hr))).1]; rfl
  unfold txt
  rw [if_neg (okL_ne hl)]
  simp only
  rcases hs with rfl | hs
  ·rw [if_pos rfl, List.nil_append]
   rcases hr with rfl | hr
   ·rw [if_pos rfl, List.append_nil]
    unfold parse
    rw [if_neg (by rintro rfl; simp [rootT] at hll), (cut_none l h1).1, h1, if_pos hl.1, hl.2]
    rfl
   ·rw [if_neg (by rintro rfl; have := isR_iff.1 hr.1; simp at this)]
    obtain ⟨c1, c2, c3⟩ := cut_app (b := r) h1
    unfold parse
    rw [if_neg (by intro e; rw [e] at c3; simp [cutM, rootT] at c3), c1, c2, c3, if_pos hl.1, if_pos rfl, hl.2, splR hr, foldP, stepR _ hr]
    rfl
  ·have hsn : s ≠ [] := by rintro rfl; have := (isS_iff.1 hs.1).1; simp at this
   have h2 := no45 (okS_ch hs)
   have stepS : step ⟨l, [], []⟩ s = some ⟨l, s, []⟩ := by
    unfold step
    simp [hs.1, hs.2]
   rw [if_neg hsn]
   rcases hr with rfl | hr
   ·rw [if_pos rfl, List.append_nil]
    obtain ⟨c1, c2, c3⟩ := cut_app (b := s) h1
    unfold parse
    rw [if_neg (by intro e; rw [e] at c3; simp [cutM, rootT] at c3), c1, c2, c3, if_pos hl.1, if_pos rfl, hl.2, spl_cut, h2, (cut_none s h2).1]
    simp only [foldP, stepS]
    rfl
   ·rw [if_neg (by rintro rfl; have := isR_iff.1 hr.1; simp at this)]
    obtain ⟨c1, c2, c3⟩ := cut_app (b := s ++ 45 :: r) h1
    obtain ⟨d1, d2, d3⟩ := cut_app (b := r) h2
    rw [List.cons_append]
    unfold parse
    rw [if_neg (by intro e; rw [e] at c3; simp [cutM, rootT] at c3), c1, c2, c3, if_pos hl.1, if_pos rfl, hl.2, spl_cut, d1, d2, d3, if_pos rfl, splR hr]
    simp only [foldP, stepS, stepR _ hr]
end D
end Go.Proofs.YtgnjjlgmlokhmaaGreatDoor
namespace Go.Proofs.YtgnjjlgmlokhmaaGreatDoor
namespace D

structure Tg where
 l : List Nat
 len : l.length = 10
 lt : ∀ b ∈ l, b < 256
theorem Tg.eq {x y : Tg} (h : x.l = y.l) : x = y := by cases x; cases y; simp at h; subst h; rfl
instance : DecidableEq Tg := fun x y => if h : x.l = y.l then .isTrue (Tg.eq h) else .isFalse fun e => h (by rw [e])
def padn (l : List Nat) (n : Nat) : List Nat := (l ++ List.replicate n 0).take n
theorem padn_len (l : List Nat) (n : Nat) : (padn l n).length = n := by simp [padn]
def tbl (p : Pt) : List Nat := padn p.l 3 ++ (padn p.s 4 ++ padn p.r 3)
theorem tbl_len (p : Pt) : (tbl p).length = 10 := by simp [tbl, padn_len]
def tb (p : Pt) : Tg := ⟨(tbl p).map (· % 256), by simp [tbl_len], by
 intro b hb
 obtain ⟨a, _, rfl⟩ := List.mem_map.1 hb
 exact Nat.mod_lt _ (by decide)⟩
def zero : Tg := tb rt
def front (l : List Nat) : List Nat := (l.reverse.dropWhile (· == 0)).reverse
def hd0 (l : List Nat) : List Nat := l.takeWhile (· != 0)
def pl (x : Tg) : List Nat := x.l.take 3
def ps (x : Tg) : List Nat := (x.l.drop 3).take 4
def pr (x : Tg) : List Nat := x.l.drop 7
def frt (x : Tg) : Pt := ⟨front (pl x), front (ps x), front (pr x)⟩
def hds (x : Tg) : Pt := ⟨hd0 (pl x), hd0 (ps x), hd0 (pr x)⟩
def join : List (List Nat) -> List Nat
 | [] => []
 | [x] => x
 | x :: y :: r => x ++ 45 :: join (y :: r)
def some3 (p : Pt) : List (List Nat) := (if p.l = [] then [] else [p.l]) ++ ((if p.s = [] then [] else [p.s]) ++ (if p.r = [] then [] else [p.r]))
def spell (x : Tg) : List Nat := if x = zero then rootT else join (some3 (hds x))
def pt (x : Tg) : Option Pt := match parse (spell x) with
 | none => none
 | some p => if tb p = x then some p else none

theorem ch_lt {l : List Nat} (h : ∀ c ∈ l, Ch c) : ∀ c ∈ l, c < 256 := fun c hc => by have := h c hc; unfold Ch at this; omega
theorem can_ch {p : Pt} (h : Can p) : (∀ c ∈ p.l, Ch c) ∧ (∀ c ∈ p.s, Ch c) ∧ (∀ c ∈ p.r, Ch c) := by
 rcases h with rfl | ⟨hl, hs, hr⟩
 ·refine ⟨?_, ?_, ?_⟩ <;> (intro c h; cases h)
 ·refine ⟨okL_ch hl, ?_, ?_⟩
  ·rcases hs with e | hs
   ·rw [e]; exact fun c h => by cases h
   ·exact okS_ch hs
  ·rcases hr with e | hr
   ·rw [e]; exact fun c h => by cases h
   ·exact okR_ch hr
theorem can_len {p : Pt} (h : Can p) : p.l.length <= 3 ∧ p.s.length <= 4 ∧ p.r.length <= 3 := by
 rcases h with rfl | ⟨hl, hs, hr⟩
 ·decide
 ·refine ⟨by have := (isL_iff.1 hl.1).1; omega, ?_, ?_⟩
  ·rcases hs with e | hs
   ·rw [e]; decide
   ·have := (isS_iff.1 hs.1).1; omega
  ·rcases hr with e | hr
   ·rw [e]; decide
   ·rcases isR_iff.1 hr.1 with h | h <;> omega
theorem padn_eq {l : List Nat} {n : Nat} (h : l.length <= n) : padn l n = l ++ List.replicate (n - l.length) 0 := by
 unfold padn
 rw [List.take_append, List.take_of_length_le h, List.take_replicate, Nat.min_eq_left (by omega)]
theorem mem_padn {l : List Nat} {n c : Nat} (h : c ∈ padn l n) : c ∈ l ∨ c = 0 := by
 have := List.mem_of_mem_take h
 rcases List.mem_append.1 this with h | h
 ·exact .inl h
 ·exact .inr (List.eq_of_mem_replicate h)
theorem tbl_lt {p : Pt} (hl : ∀ c ∈ p.l, c < 256) (hs : ∀ c ∈ p.s, c < 256) (hr : ∀ c ∈ p.r, c < 256) : ∀ c ∈ tbl p, c < 256 := by
 intro c hc
 unfold tbl at hc
 rcases List.mem_append.1 hc with h | h
 ·rcases mem_padn h with h | rfl
  ·exact hl c h
  ·decide
 ·rcases List.mem_append.1 h with h | h
  ·rcases mem_padn h with h | rfl
   ·exact hs c h
   ·decide
  ·rcases mem_padn h with h | rfl
   ·exact hr c h
   ·decide
theorem map_mod {l : List Nat} (h : ∀ c ∈ l, c < 256) : l.map (· % 256) = l := by
 have : ∀ c ∈ l, (fun x => x % 256) c = id c := fun c hc => Nat.mod_eq_of_lt (h c hc)
 rw [List.map_congr_left this, List.map_id]
theorem tb_l {p : Pt} (hl : ∀ c ∈ p.l, c < 256) (hs : ∀ c ∈ p.s, c < 256) (hr : ∀ c ∈ p.r, c < 256) : (tb p).l = tbl p := map_mod (tbl_lt hl hs hr)
theorem can_tb {p : Pt} (h : Can p) : (tb p).l = tbl p := by
 obtain ⟨a, b, c⟩ := can_ch h
 exact tb_l (ch_lt a) (ch_lt b) (ch_lt c)
theorem parts_tb {p : Pt} (h : Can p) : pl (tb p) = padn p.l 3 ∧ ps (tb p) = padn p.s 4 ∧ pr (tb p) = padn p.r 3 := by
 unfold pl ps pr
 rw [can_tb h, tbl]
 have e1 := padn_len p.l 3
 have e2 := padn_len p.s 4
 refine ⟨?_, ?_, ?_⟩
 ·rw [List.take_append_of_le_length (by omega), List.take_of_length_le (by omega)]
 ·rw [List.drop_append_of_le_length (by omega), List.drop_of_length_le (by omega), List.nil_append, List.take_append_of_le_length (by omega), List.take_of_length_le (by omega)]
 ·rw [<- List.append_assoc, List.drop_append_of_le_length (by simp; omega), List.drop_of_length_le (by simp; omega), List.nil_append]
theorem front_padn {l : List Nat} {n : Nat} (h : l.length <= n) (hc : ∀ c ∈ l, Ch c) : front (padn l n) = l := by
 rw [padn_eq h]
 unfold front
 rw [List.reverse_append, List.reverse_replicate, List.dropWhile_append]
 have e : List.dropWhile (fun x => x == 0) (List.replicate (n - l.length) 0) = [] := by
  rw [List.dropWhile_replicate]; simp
 rw [e]
 simp only [List.isEmpty_nil, if_true]
 have : List.dropWhile (fun x => x == 0) l.reverse = l.reverse := by
  cases hl : l.reverse with
  | nil => rfl
  | cons c t =>
   have : c ∈ l := by rw [<- List.mem_reverse, hl]; simp
   have := hc c this
   unfold Ch at this
   rw [List.dropWhile_cons_of_neg (by simp; omega)]
 rw [this, List.reverse_reverse]
theorem hd0_padn {l : List Nat} {n : Nat} (h : l.length <= n) (hc : ∀ c ∈ l, Ch c) : hd0 (padn l n) = l := by
 rw [padn_eq h]
 unfold hd0
 rw [List.takeWhile_append_of_pos (fun c hm => by have := hc c hm; unfold Ch at this; simp; omega)]
 have : List.takeWhile (fun x => x != 0) (List.replicate (n - l.length) 0) = [] := by
  cases n - l.length with
  | zero => rfl
  | succ k => rw [List.replicate_succ, List.takeWhile_cons_of_neg (by simp)]
 rw [this, List.append_nil]
theorem frt_tb {p : Pt} (h : Can p) : frt (tb p) = p := by
 obtain ⟨a, b, c⟩ := parts_tb h
 obtain ⟨d, e, f⟩ := can_ch h
 obtain ⟨l1, l2, l3⟩ := can_len h
 unfold frt
 rw [a, b, c, front_padn l1 d, front_padn l2 e, front_padn l3 f]
theorem hds_tb {p : Pt} (h : Can p) : hds (tb p) = p := by
 obtain ⟨a, b, c⟩ := parts_tb h
 obtain ⟨d, e, f⟩ := can_ch h
 obtain ⟨l1, l2, l3⟩ := can_len h
 unfold hds
 rw [a, b, c, hd0_padn l1 d, hd0_padn l2 e, hd0_padn l3 f]
theorem tb_inj {p q : Pt} (h : Can p) (k : Can q) (e : tb p = tb q) : p = q := by rw [<- frt_tb h, e, frt_tb k]
theorem join_some3 {p : Pt} (h : p.l ≠ []) : join (some3 p) = txt p := by
 unfold some3 txt
 rw [if_neg h, if_neg h]
 by_cases hs : p.s = [] <;> by_cases hr : p.r = [] <;> simp [hs, hr, join]
theorem spell_tb {p : Pt} (h : Can p) : spell (tb p) = txt p := by
 unfold spell
 rw [hds_tb h]
 by_cases hz : p = rt
 ·subst hz
  rw [if_pos (show tb rt = zero from rfl)]; rfl
 ·rw [if_neg (fun e : tb p = zero => hz (tb_inj h (.inl rfl) e)), join_some3]
  rcases h with rfl | ⟨hl, _⟩
  ·exact absurd rfl hz
  ·exact okL_ne hl
theorem pt_tb {p : Pt} (h : Can p) : pt (tb p) = some p := by
 unfold pt
 rw [spell_tb h, parse_txt h]
 simp
theorem pt_some {x : Tg} {p : Pt} (h : pt x = some p) : Can p ∧ tb p = x := by
 unfold pt at h
 split at h
 ·cases h
 ·rename_i q hq
  split at h
  ·rename_i he
   injection h with h
   subst h
   exact ⟨parse_can hq, he⟩
  ·cases h
def right (x : Tg) : Bool := (pt x).isSome
def c1 (p : Pt) : List Pt := if p.l ≠ [] then [rt] else []
def c2 (p : Pt) : List Pt := (if p.s ≠ [] then [⟨p.l, [], p.r⟩] else []) ++ c1 p
def spn : Nat -> List Nat -> List (List Nat)
 | 0, t => [t]
 | k + 1, t => if cutM t then cutP t :: spn k (cutR t) else [t]
theorem spn_more : ∀ (k : Nat) (t : List Nat), t.length <= k -> ∀ j, spn (k + j) t = spn k t
 | 0, t, h, j => by
  have : t = [] := List.eq_nil_of_length_eq_zero (by omega)
  subst this
  cases j <;> rfl
 | k + 1, t, h, j => by
  rw [show k + 1 + j = (k + j) + 1 by omega, spn, spn]
  split
  ·rename_i hm
   rw [spn_more k (cutR t) (by have := cutR_lt hm; omega) j]
  ·rfl
end D
end Go.Proofs.YtgnjjlgmlokhmaaGreatDoor
