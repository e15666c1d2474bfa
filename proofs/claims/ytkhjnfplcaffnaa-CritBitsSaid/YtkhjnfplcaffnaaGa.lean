/-
  Tags as lists of plain numbers: which texts are tags, their parts, their bytes, parents and chains. No program is spoken of.
  Tags as ten plain numbers: of which parts they are, their texts, parents and chains. No program is spoken of.
  Names as lists of plain numbers: which texts are names, which names are right, which comes first, sorted lists of them. No program is spoken of.
-/

set_option linter.unusedVariables false
set_option linter.unusedSimpArgs false
namespace Go.Proofs.Ytkhjnfplcaffnaa
namespace D

/-- A text's bytes, and the text of bytes. -/
def ns (s : ByteArray) : List Nat := s.data.toList.map (·.toNat)
def sb (l : List Nat) : ByteArray := ⟨(l.map UInt8.ofNat).toArray⟩
theorem ns_len (s : ByteArray) : (ns s).length = s.size := by simp [ns]
theorem ns_lt (s : ByteArray) : ∀ b ∈ ns s, b < 256 := by
  intro b hb
  obtain ⟨u, _, rfl⟩ := List.mem_map.1 hb
  exact u.toNat_lt
theorem sb_ns (s : ByteArray) : sb (ns s) = s := by
  have e : (UInt8.ofNat ∘ fun x : UInt8 => x.toNat) = id := by funext x; simp
  have : (ns s).map UInt8.ofNat = s.data.toList := by rw [ns, List.map_map, e, List.map_id]
  rw [sb, this]
theorem ns_sb {l : List Nat} (h : ∀ b ∈ l, b < 256) : ns (sb l) = l := by
  simp only [ns, sb, List.map_map]
  have : ∀ b ∈ l, ((fun u : UInt8 => u.toNat) ∘ UInt8.ofNat) b = id b := fun b hb => by
    have := h b hb
    simp; omega
  rw [List.map_congr_left this, List.map_id]
theorem sb_len (l : List Nat) : (sb l).size = l.length := by simp [sb, ByteArray.size]
theorem ns_inj {s t : ByteArray} (h : ns s = ns t) : s = t := by rw [← sb_ns s, h, sb_ns]
theorem sb_inj {l k : List Nat} (hl : ∀ b ∈ l, b < 256) (hk : ∀ b ∈ k, b < 256) (h : sb l = sb k) : l = k := by rw [← ns_sb hl, h, ns_sb hk]

/-- Letters, digits; small and great ones. -/
def letB (c : Nat) : Bool := decide ((97 ≤ c ∧ c ≤ 122) ∨ (65 ≤ c ∧ c ≤ 90))
def digB (c : Nat) : Bool := decide (48 ≤ c ∧ c ≤ 57)
def lowB (c : Nat) : Nat := if 65 ≤ c ∧ c ≤ 90 then c + 32 else c
def upB (c : Nat) : Nat := if 97 ≤ c ∧ c ≤ 122 then c - 32 else c
def low (l : List Nat) : List Nat := l.map lowB
def up (l : List Nat) : List Nat := l.map upB
def cap (l : List Nat) : List Nat := up (l.take 1) ++ low (l.drop 1)
def allL (t : List Nat) : Bool := t.all letB
def allD (t : List Nat) : Bool := t.all digB
def isL (t : List Nat) : Bool := (t.length == 2 || t.length == 3) && allL t
def isS (t : List Nat) : Bool := t.length == 4 && allL t
def isR (t : List Nat) : Bool := t.length == 2 && allL t || t.length == 3 && allD t
theorem low_len (l : List Nat) : (low l).length = l.length := by simp [low]
theorem up_len (l : List Nat) : (up l).length = l.length := by simp [up]
theorem cap_len (l : List Nat) : (cap l).length = l.length := by simp [cap, up, low]; omega
theorem letB_low (c : Nat) : letB (lowB c) = letB c := by
  unfold letB lowB
  rw [Bool.eq_iff_iff]
  split <;> simp only [decide_eq_true_eq] <;> omega
theorem letB_up (c : Nat) : letB (upB c) = letB c := by
  unfold letB upB
  rw [Bool.eq_iff_iff]
  split <;> simp only [decide_eq_true_eq] <;> omega
theorem digB_up (c : Nat) : digB (upB c) = digB c := by
  unfold digB upB
  rw [Bool.eq_iff_iff]
  split <;> simp only [decide_eq_true_eq] <;> omega
theorem lowB_low (c : Nat) : lowB (lowB c) = lowB c := by unfold lowB; split <;> (try split) <;> omega
theorem upB_up (c : Nat) : upB (upB c) = upB c := by unfold upB; split <;> (try split) <;> omega
theorem allL_low (l : List Nat) : allL (low l) = allL l := by simp [allL, low, List.all_map, Function.comp_def, letB_low]
theorem allL_up (l : List Nat) : allL (up l) = allL l := by simp [allL, up, List.all_map, Function.comp_def, letB_up]
theorem allD_up (l : List Nat) : allD (up l) = allD l := by simp [allD, up, List.all_map, Function.comp_def, digB_up]
theorem allL_app (l k : List Nat) : allL (l ++ k) = (allL l && allL k) := by simp [allL]
theorem low_low (l : List Nat) : low (low l) = low l := by simp [low, Function.comp_def, lowB_low]
theorem up_up (l : List Nat) : up (up l) = up l := by simp [up, Function.comp_def, upB_up]
theorem allL_cap (l : List Nat) : allL (cap l) = allL l := by
  rw [cap, allL_app, allL_up, allL_low, ← allL_app, List.take_append_drop]
theorem cap_cap (l : List Nat) : cap (cap l) = cap l := by
  cases l with
  | nil => rfl
  | cons c t =>
    show cap (up [c] ++ low t) = up [c] ++ low t
    show up [upB c] ++ low (low t) = up [c] ++ low t
    rw [low_low]
    simp [up, upB_up]
theorem isL_low (l : List Nat) : isL (low l) = isL l := by simp only [isL, low_len, allL_low]
theorem isS_cap (l : List Nat) : isS (cap l) = isS l := by simp only [isS, cap_len, allL_cap]
theorem isR_up (l : List Nat) : isR (up l) = isR l := by simp only [isR, up_len, allL_up, allD_up]
theorem isL_iff {l : List Nat} : isL l = true ↔ (l.length = 2 ∨ l.length = 3) ∧ allL l = true := by simp [isL]
theorem isS_iff {l : List Nat} : isS l = true ↔ l.length = 4 ∧ allL l = true := by simp [isS]
theorem isR_iff {l : List Nat} : isR l = true ↔ (l.length = 2 ∧ allL l = true) ∨ (l.length = 3 ∧ allD l = true) := by simp [isR]
/-- Which bytes letters and digits are. -/
def Ch (c : Nat) : Prop := 48 ≤ c ∧ c ≤ 122
theorem ch_L {l : List Nat} (h : allL l = true) : ∀ c ∈ l, Ch c := fun c hc => by
  have := List.all_eq_true.1 h c hc
  simp [letB] at this
  unfold Ch; omega
theorem ch_D {l : List Nat} (h : allD l = true) : ∀ c ∈ l, Ch c := fun c hc => by
  have := List.all_eq_true.1 h c hc
  simp [digB] at this
  unfold Ch; omega
theorem ch_R {l : List Nat} (h : isR l = true) : ∀ c ∈ l, Ch c := by
  rcases isR_iff.1 h with ⟨_, h⟩ | ⟨_, h⟩
  · exact ch_L h
  · exact ch_D h

/-- The parts of a tag. -/
structure Pt where
  l : List Nat
  s : List Nat
  r : List Nat
  deriving DecidableEq
def rt : Pt := ⟨[], [], []⟩
def rootT : List Nat := [114, 111, 111, 116]

/-- The pieces of a text between its - bytes. -/
def spl : List Nat → List (List Nat)
  | [] => [[]]
  | c :: t => if c = 45 then [] :: spl t else match spl t with
    | [] => [[c]]
    | p :: ps => (c :: p) :: ps
/-- The first piece, the rest, and whether there is more. -/
def cutP : List Nat → List Nat
  | [] => []
  | c :: t => if c = 45 then [] else c :: cutP t
def cutR : List Nat → List Nat
  | [] => []
  | c :: t => if c = 45 then t else cutR t
def cutM (t : List Nat) : Bool := t.contains 45
theorem spl_cut : ∀ t, spl t = cutP t :: (if cutM t then spl (cutR t) else [])
  | [] => rfl
  | c :: t => by
    rw [spl, cutP, cutR]
    by_cases h : c = 45
    · subst h
      simp [cutM]
    · rw [if_neg h, if_neg h, if_neg h, spl_cut t]
      have : cutM (c :: t) = cutM t := by
        simp only [cutM, List.contains_cons]
        rw [show ((45 : Nat) == c) = false by simp; omega, Bool.false_or]
      rw [this]
theorem cut_none : ∀ t, cutM t = false → cutP t = t ∧ cutR t = []
  | [], _ => ⟨rfl, rfl⟩
  | c :: t, h => by
    simp only [cutM, List.contains_cons, Bool.or_eq_false_iff] at h
    have hc : ¬ c = 45 := by have := h.1; simp at this; omega
    obtain ⟨h1, h2⟩ := cut_none t h.2
    rw [cutP, cutR, if_neg hc, if_neg hc, h1, h2]
    exact ⟨rfl, rfl⟩
theorem cut_at : ∀ {t : List Nat} {k : Nat}, t[k]? = some 45 → (∀ i, i < k → t[i]? ≠ some 45) → cutP t = t.take k ∧ cutR t = t.drop (k + 1) ∧ cutM t = true
  | [], k, h, _ => by simp at h
  | c :: t, 0, h, _ => by
    simp at h
    subst h
    simp [cutP, cutR, cutM]
  | c :: t, k + 1, h, hn => by
    have hc : ¬ c = 45 := fun e => hn 0 (by omega) (by simp [e])
    obtain ⟨h1, h2, h3⟩ := cut_at (t := t) (k := k) (by simpa using h) (fun i hi => by have := hn (i + 1) (by omega); simpa using this)
    rw [cutP, cutR, if_neg hc, if_neg hc, h1, h2]
    refine ⟨rfl, rfl, ?_⟩
    simp only [cutM, List.contains_cons] at h3 ⊢
    rw [h3, Bool.or_true]
theorem cutM_no {t : List Nat} (h : ∀ i, i < t.length → t[i]? ≠ some 45) : cutM t = false := by
  cases e : cutM t
  · rfl
  · simp only [cutM, List.contains_iff_mem] at e
    obtain ⟨i, hi, he⟩ := List.getElem_of_mem e
    exact absurd (by rw [List.getElem?_eq_getElem hi, he]) (h i hi)
theorem cutR_lt {t : List Nat} (h : cutM t = true) : (cutR t).length < t.length := by
  induction t with
  | nil => simp [cutM] at h
  | cons c t ih =>
    rw [cutR]
    split
    · simp
    · rename_i hc
      simp only [cutM, List.contains_cons] at h
      rw [show ((45 : Nat) == c) = false by simp; omega, Bool.false_or] at h
      have := ih h
      simp; omega
theorem cutP_mem {t : List Nat} {c : Nat} (h : c ∈ cutP t) : c ∈ t := by
  induction t with
  | nil => simp [cutP] at h
  | cons a t ih =>
    rw [cutP] at h
    split at h
    · simp at h
    · rcases List.mem_cons.1 h with rfl | h
      · simp
      · simp [ih h]
theorem cutR_mem {t : List Nat} {c : Nat} (h : c ∈ cutR t) : c ∈ t := by
  induction t with
  | nil => simp [cutR] at h
  | cons a t ih =>
    rw [cutR] at h
    split at h
    · simp [h]
    · simp [ih h]
theorem cutP_len (t : List Nat) : (cutP t).length ≤ t.length := by
  induction t with
  | nil => simp [cutP]
  | cons a t ih => rw [cutP]; split <;> simp; exact ih

/-- One more piece. -/
def step (t : Pt) (p : List Nat) : Option Pt := if isS p && t.s == [] && t.r == [] then some ⟨t.l, cap p, t.r⟩ else if isR p && t.r == [] then some ⟨t.l, t.s, up p⟩ else none
def foldP (t : Pt) : List (List Nat) → Option Pt
  | [] => some t
  | p :: ps => match step t p with
    | none => none
    | some u => foldP u ps
/-- The parts of a text. -/
def parse (s : List Nat) : Option Pt := if s = rootT then some rt else if isL (cutP s) then (if cutM s then foldP ⟨low (cutP s), [], []⟩ (spl (cutR s)) else some ⟨low (cutP s), [], []⟩) else none

/-- Right parts. -/
def okL (l : List Nat) : Prop := isL l = true ∧ low l = l
def okS (l : List Nat) : Prop := isS l = true ∧ cap l = l
def okR (l : List Nat) : Prop := isR l = true ∧ up l = l
def Can (p : Pt) : Prop := p = rt ∨ okL p.l ∧ (p.s = [] ∨ okS p.s) ∧ (p.r = [] ∨ okR p.r)
def Can1 (p : Pt) : Prop := okL p.l ∧ (p.s = [] ∨ okS p.s) ∧ (p.r = [] ∨ okR p.r)
theorem ok_low {l : List Nat} (h : isL l = true) : okL (low l) := ⟨by rw [isL_low]; exact h, low_low l⟩
theorem ok_cap {l : List Nat} (h : isS l = true) : okS (cap l) := ⟨by rw [isS_cap]; exact h, cap_cap l⟩
theorem ok_up {l : List Nat} (h : isR l = true) : okR (up l) := ⟨by rw [isR_up]; exact h, up_up l⟩
theorem step_can {t u : Pt} {p : List Nat} (h : Can1 t) (e : step t p = some u) : Can1 u := by
  unfold step at e
  split at e
  · rename_i hc
    simp only [Bool.and_eq_true, beq_iff_eq] at hc
    injection e with e
    subst e
    exact ⟨h.1, .inr (ok_cap hc.1.1), h.2.2⟩
  · split at e
    · rename_i hc
      simp only [Bool.and_eq_true, beq_iff_eq] at hc
      injection e with e
      subst e
      exact ⟨h.1, h.2.1, .inr (ok_up hc.1)⟩
    · cases e
theorem fold_can : ∀ {ps : List (List Nat)} {t u : Pt}, Can1 t → foldP t ps = some u → Can1 u
  | [], t, u, h, e => by injection e with e; subst e; exact h
  | p :: ps, t, u, h, e => by
    rw [foldP] at e
    cases hs : step t p with
    | none => rw [hs] at e; cases e
    | some v => rw [hs] at e; exact fold_can (step_can h hs) e
theorem parse_can {s : List Nat} {p : Pt} (h : parse s = some p) : Can p := by
  unfold parse at h
  split at h
  · injection h with h; exact .inl h.symm
  · split at h
    · rename_i hl
      have h0 : Can1 ⟨low (cutP s), [], []⟩ := ⟨ok_low hl, .inl rfl, .inl rfl⟩
      split at h
      · exact .inr (fold_can h0 h)
      · injection h with h; subst h; exact .inr h0
    · cases h

/-- The canonical text. -/
def txt (p : Pt) : List Nat := if p.l = [] then rootT else p.l ++ ((if p.s = [] then [] else 45 :: p.s) ++ (if p.r = [] then [] else 45 :: p.r))
theorem no45 {l : List Nat} (h : ∀ c ∈ l, Ch c) : cutM l = false := cutM_no fun i hi e => by
  have := h 45 (List.mem_of_getElem? e)
  unfold Ch at this; omega
theorem cut_app : ∀ {a b : List Nat}, cutM a = false → cutP (a ++ 45 :: b) = a ∧ cutR (a ++ 45 :: b) = b ∧ cutM (a ++ 45 :: b) = true
  | [], b, _ => by simp [cutP, cutR, cutM]
  | c :: a, b, h => by
    simp only [cutM, List.contains_cons, Bool.or_eq_false_iff] at h
    have hc : ¬ c = 45 := by have := h.1; simp at this; omega
    obtain ⟨h1, h2, h3⟩ := cut_app (a := a) (b := b) h.2
    rw [List.cons_append, cutP, cutR, if_neg hc, if_neg hc, h1, h2]
    refine ⟨rfl, rfl, ?_⟩
    simp only [cutM, List.contains_cons] at h3 ⊢
    rw [h3, Bool.or_true]
theorem okL_ch {l : List Nat} (h : okL l) : ∀ c ∈ l, Ch c := ch_L (isL_iff.1 h.1).2
theorem okS_ch {l : List Nat} (h : okS l) : ∀ c ∈ l, Ch c := ch_L (isS_iff.1 h.1).2
theorem okR_ch {l : List Nat} (h : okR l) : ∀ c ∈ l, Ch c := ch_R h.1
theorem okL_ne {l : List Nat} (h : okL l) : l ≠ [] := by
  rintro rfl
  have := (isL_iff.1 h.1).1
  simp at this
theorem isR_not_isS {l : List Nat} (h : isR l = true) : isS l = false := by
  cases e : isS l
  · rfl
  · have h1 := (isS_iff.1 e).1
    rcases isR_iff.1 h with ⟨h2, _⟩ | ⟨h2, _⟩ <;> omega
theorem parse_txt {p : Pt} (h : Can p) : parse (txt p) = some p := by
  rcases h with rfl | ⟨hl, hs, hr⟩
  · rfl
  · obtain ⟨l, s, r⟩ := p
    simp only at hl hs hr
    have h1 := no45 (okL_ch hl)
    have hll := (isL_iff.1 hl.1).1
    have stepR : ∀ s, okR r → step ⟨l, s, []⟩ r = some ⟨l, s, r⟩ := fun s hr => by
      unfold step
      rw [isR_not_isS hr.1]
      simp [hr.1, hr.2]
    have splR : okR r → spl r = [r] := fun hr => by
      rw [spl_cut, no45 (okR_ch hr), (cut_none r (no45 (okR_ch hr))).1]; rfl
    unfold txt
    rw [if_neg (okL_ne hl)]
    simp only
    rcases hs with rfl | hs
    · rw [if_pos rfl, List.nil_append]
      rcases hr with rfl | hr
      · rw [if_pos rfl, List.append_nil]
        unfold parse
        rw [if_neg (by rintro rfl; simp [rootT] at hll), (cut_none l h1).1, h1, if_pos hl.1, hl.2]
        rfl
      · rw [if_neg (by rintro rfl; have := isR_iff.1 hr.1; simp at this)]
        obtain ⟨c1, c2, c3⟩ := cut_app (b := r) h1
        unfold parse
        rw [if_neg (by intro e; rw [e] at c3; simp [cutM, rootT] at c3), c1, c2, c3, if_pos hl.1, if_pos rfl, hl.2, splR hr, foldP, stepR _ hr]
        rfl
    · have hsn : s ≠ [] := by rintro rfl; have := (isS_iff.1 hs.1).1; simp at this
      have h2 := no45 (okS_ch hs)
      have stepS : step ⟨l, [], []⟩ s = some ⟨l, s, []⟩ := by
        unfold step
        simp [hs.1, hs.2]
      rw [if_neg hsn]
      rcases hr with rfl | hr
      · rw [if_pos rfl, List.append_nil]
        obtain ⟨c1, c2, c3⟩ := cut_app (b := s) h1
        unfold parse
        rw [if_neg (by intro e; rw [e] at c3; simp [cutM, rootT] at c3), c1, c2, c3, if_pos hl.1, if_pos rfl, hl.2, spl_cut, h2, (cut_none s h2).1]
        simp only [foldP, stepS]
        rfl
      · rw [if_neg (by rintro rfl; have := isR_iff.1 hr.1; simp at this)]
        obtain ⟨c1, c2, c3⟩ := cut_app (b := s ++ 45 :: r) h1
        obtain ⟨d1, d2, d3⟩ := cut_app (b := r) h2
        rw [List.cons_append]
        unfold parse
        rw [if_neg (by intro e; rw [e] at c3; simp [cutM, rootT] at c3), c1, c2, c3, if_pos hl.1, if_pos rfl, hl.2, spl_cut, d1, d2, d3, if_pos rfl, splR hr]
        simp only [foldP, stepS, stepR _ hr]
end D
end Go.Proofs.Ytkhjnfplcaffnaa
set_option linter.unusedVariables false
set_option linter.unusedSimpArgs false
namespace Go.Proofs.Ytkhjnfplcaffnaa
namespace D

/-- Ten bytes. -/
structure Tg where
  l : List Nat
  len : l.length = 10
  lt : ∀ b ∈ l, b < 256
theorem Tg.eq {x y : Tg} (h : x.l = y.l) : x = y := by cases x; cases y; simp at h; subst h; rfl
instance : DecidableEq Tg := fun x y => if h : x.l = y.l then .isTrue (Tg.eq h) else .isFalse fun e => h (by rw [e])
def padn (l : List Nat) (n : Nat) : List Nat := (l ++ List.replicate n 0).take n
theorem padn_len (l : List Nat) (n : Nat) : (padn l n).length = n := by simp [padn]
def tbl (p : Pt) : List Nat := padn p.l 3 ++ (padn p.s 4 ++ padn p.r 3)
theorem tbl_len (p : Pt) : (tbl p).length = 10 := by simp [tbl, padn_len]
def tb (p : Pt) : Tg := ⟨(tbl p).map (· % 256), by simp [tbl_len], by
  intro b hb
  obtain ⟨a, _, rfl⟩ := List.mem_map.1 hb
  exact Nat.mod_lt _ (by decide)⟩
def zero : Tg := tb rt
theorem zero_l : zero.l = List.replicate 10 0 := rfl
/-- Bytes up to those that are 0 at the end. -/
def front (l : List Nat) : List Nat := (l.reverse.dropWhile (· == 0)).reverse
/-- Bytes ahead of the first 0. -/
def hd0 (l : List Nat) : List Nat := l.takeWhile (· != 0)
def pl (x : Tg) : List Nat := x.l.take 3
def ps (x : Tg) : List Nat := (x.l.drop 3).take 4
def pr (x : Tg) : List Nat := x.l.drop 7
def frt (x : Tg) : Pt := ⟨front (pl x), front (ps x), front (pr x)⟩
def hds (x : Tg) : Pt := ⟨hd0 (pl x), hd0 (ps x), hd0 (pr x)⟩
def join : List (List Nat) → List Nat
  | [] => []
  | [x] => x
  | x :: y :: r => x ++ 45 :: join (y :: r)
/-- The parts that are not empty. -/
def some3 (p : Pt) : List (List Nat) := (if p.l = [] then [] else [p.l]) ++ ((if p.s = [] then [] else [p.s]) ++ (if p.r = [] then [] else [p.r]))
def spell (x : Tg) : List Nat := if x = zero then rootT else join (some3 (hds x))
/-- The parts of a right tag. -/
def pt (x : Tg) : Option Pt := match parse (spell x) with
  | none => none
  | some p => if tb p = x then some p else none

theorem ch_lt {l : List Nat} (h : ∀ c ∈ l, Ch c) : ∀ c ∈ l, c < 256 := fun c hc => by have := h c hc; unfold Ch at this; omega
theorem can_ch {p : Pt} (h : Can p) : (∀ c ∈ p.l, Ch c) ∧ (∀ c ∈ p.s, Ch c) ∧ (∀ c ∈ p.r, Ch c) := by
  rcases h with rfl | ⟨hl, hs, hr⟩
  · refine ⟨?_, ?_, ?_⟩ <;> (intro c h; cases h)
  · refine ⟨okL_ch hl, ?_, ?_⟩
    · rcases hs with e | hs
      · rw [e]; exact fun c h => by cases h
      · exact okS_ch hs
    · rcases hr with e | hr
      · rw [e]; exact fun c h => by cases h
      · exact okR_ch hr
theorem can_len {p : Pt} (h : Can p) : p.l.length ≤ 3 ∧ p.s.length ≤ 4 ∧ p.r.length ≤ 3 := by
  rcases h with rfl | ⟨hl, hs, hr⟩
  · decide
  · refine ⟨by have := (isL_iff.1 hl.1).1; omega, ?_, ?_⟩
    · rcases hs with e | hs
      · rw [e]; decide
      · have := (isS_iff.1 hs.1).1; omega
    · rcases hr with e | hr
      · rw [e]; decide
      · rcases isR_iff.1 hr.1 with h | h <;> omega
theorem padn_eq {l : List Nat} {n : Nat} (h : l.length ≤ n) : padn l n = l ++ List.replicate (n - l.length) 0 := by
  unfold padn
  rw [List.take_append, List.take_of_length_le h, List.take_replicate, Nat.min_eq_left (by omega)]
theorem mem_padn {l : List Nat} {n c : Nat} (h : c ∈ padn l n) : c ∈ l ∨ c = 0 := by
  have := List.mem_of_mem_take h
  rcases List.mem_append.1 this with h | h
  · exact .inl h
  · exact .inr (List.eq_of_mem_replicate h)
theorem tbl_lt {p : Pt} (hl : ∀ c ∈ p.l, c < 256) (hs : ∀ c ∈ p.s, c < 256) (hr : ∀ c ∈ p.r, c < 256) : ∀ c ∈ tbl p, c < 256 := by
  intro c hc
  unfold tbl at hc
  rcases List.mem_append.1 hc with h | h
  · rcases mem_padn h with h | rfl
    · exact hl c h
    · decide
  · rcases List.mem_append.1 h with h | h
    · rcases mem_padn h with h | rfl
      · exact hs c h
      · decide
    · rcases mem_padn h with h | rfl
      · exact hr c h
      · decide
theorem map_mod {l : List Nat} (h : ∀ c ∈ l, c < 256) : l.map (· % 256) = l := by
  have : ∀ c ∈ l, (fun x => x % 256) c = id c := fun c hc => Nat.mod_eq_of_lt (h c hc)
  rw [List.map_congr_left this, List.map_id]
theorem tb_l {p : Pt} (hl : ∀ c ∈ p.l, c < 256) (hs : ∀ c ∈ p.s, c < 256) (hr : ∀ c ∈ p.r, c < 256) : (tb p).l = tbl p := map_mod (tbl_lt hl hs hr)
theorem can_tb {p : Pt} (h : Can p) : (tb p).l = tbl p := by
  obtain ⟨a, b, c⟩ := can_ch h
  exact tb_l (ch_lt a) (ch_lt b) (ch_lt c)
theorem parts_tb {p : Pt} (h : Can p) : pl (tb p) = padn p.l 3 ∧ ps (tb p) = padn p.s 4 ∧ pr (tb p) = padn p.r 3 := by
  unfold pl ps pr
  rw [can_tb h, tbl]
  have e1 := padn_len p.l 3
  have e2 := padn_len p.s 4
  refine ⟨?_, ?_, ?_⟩
  · rw [List.take_append_of_le_length (by omega), List.take_of_length_le (by omega)]
  · rw [List.drop_append_of_le_length (by omega), List.drop_of_length_le (by omega), List.nil_append, List.take_append_of_le_length (by omega), List.take_of_length_le (by omega)]
  · rw [← List.append_assoc, List.drop_append_of_le_length (by simp; omega), List.drop_of_length_le (by simp; omega), List.nil_append]
theorem front_padn {l : List Nat} {n : Nat} (h : l.length ≤ n) (hc : ∀ c ∈ l, Ch c) : front (padn l n) = l := by
  rw [padn_eq h]
  unfold front
  rw [List.reverse_append, List.reverse_replicate, List.dropWhile_append]
  have e : List.dropWhile (fun x => x == 0) (List.replicate (n - l.length) 0) = [] := by
    rw [List.dropWhile_replicate]; simp
  rw [e]
  simp only [List.isEmpty_nil, if_true]
  have : List.dropWhile (fun x => x == 0) l.reverse = l.reverse := by
    cases hl : l.reverse with
    | nil => rfl
    | cons c t =>
      have : c ∈ l := by rw [← List.mem_reverse, hl]; simp
      have := hc c this
      unfold Ch at this
      rw [List.dropWhile_cons_of_neg (by simp; omega)]
  rw [this, List.reverse_reverse]
theorem hd0_padn {l : List Nat} {n : Nat} (h : l.length ≤ n) (hc : ∀ c ∈ l, Ch c) : hd0 (padn l n) = l := by
  rw [padn_eq h]
  unfold hd0
  rw [List.takeWhile_append_of_pos (fun c hm => by have := hc c hm; unfold Ch at this; simp; omega)]
  have : List.takeWhile (fun x => x != 0) (List.replicate (n - l.length) 0) = [] := by
    cases n - l.length with
    | zero => rfl
    | succ k => rw [List.replicate_succ, List.takeWhile_cons_of_neg (by simp)]
  rw [this, List.append_nil]
theorem frt_tb {p : Pt} (h : Can p) : frt (tb p) = p := by
  obtain ⟨a, b, c⟩ := parts_tb h
  obtain ⟨d, e, f⟩ := can_ch h
  obtain ⟨l1, l2, l3⟩ := can_len h
  unfold frt
  rw [a, b, c, front_padn l1 d, front_padn l2 e, front_padn l3 f]
theorem hds_tb {p : Pt} (h : Can p) : hds (tb p) = p := by
  obtain ⟨a, b, c⟩ := parts_tb h
  obtain ⟨d, e, f⟩ := can_ch h
  obtain ⟨l1, l2, l3⟩ := can_len h
  unfold hds
  rw [a, b, c, hd0_padn l1 d, hd0_padn l2 e, hd0_padn l3 f]
theorem tb_inj {p q : Pt} (h : Can p) (k : Can q) (e : tb p = tb q) : p = q := by rw [← frt_tb h, e, frt_tb k]
theorem padn_front {l : List Nat} {n : Nat} (h : l.length = n) : padn (front l) n = l := by
  have key : ∀ k : List Nat, List.dropWhile (fun x => x == 0) k = k.drop (k.length - (List.dropWhile (fun x => x == 0) k).length) ∧ k.take (k.length - (List.dropWhile (fun x => x == 0) k).length) = List.replicate (k.length - (List.dropWhile (fun x => x == 0) k).length) 0 ∧ (List.dropWhile (fun x => x == 0) k).length ≤ k.length := by
    intro k
    induction k with
    | nil => exact ⟨rfl, rfl, Nat.le_refl _⟩
    | cons c t ih =>
      by_cases hc : c = 0
      · subst hc
        obtain ⟨i1, i2, i3⟩ := ih
        rw [List.dropWhile_cons_of_pos (by rfl)]
        have e : (0 :: t).length - (List.dropWhile (fun x => x == 0) t).length = (t.length - (List.dropWhile (fun x => x == 0) t).length) + 1 := by simp; omega
        rw [e, List.drop_succ_cons, List.take_succ_cons, List.replicate_succ]
        exact ⟨i1, by rw [i2], by simp; omega⟩
      · rw [List.dropWhile_cons_of_neg (by simpa using hc)]
        simp
  obtain ⟨k1, k2, k3⟩ := key l.reverse
  have hk : (front l).length = (List.dropWhile (fun x => x == 0) l.reverse).length := by simp [front]
  rw [List.length_reverse] at k3
  rw [padn_eq (by omega)]
  have : l.reverse = List.replicate (n - (front l).length) 0 ++ List.dropWhile (fun x => x == 0) l.reverse := by
    have := (List.take_append_drop (l.reverse.length - (List.dropWhile (fun x => x == 0) l.reverse).length) l.reverse).symm
    rw [k2, ← k1] at this
    rw [hk, ← h, ← List.length_reverse]
    exact this
  have h2 := congrArg List.reverse this
  rw [List.reverse_reverse, List.reverse_append, List.reverse_replicate] at h2
  exact h2.symm
theorem front_mem {l : List Nat} {c : Nat} (h : c ∈ front l) : c ∈ l := by
  have := (List.dropWhile_suffix (fun x => x == 0) (l := l.reverse)).mem (List.mem_reverse.1 h)
  simpa using this
theorem frt_lt (x : Tg) : (∀ c ∈ (frt x).l, c < 256) ∧ (∀ c ∈ (frt x).s, c < 256) ∧ (∀ c ∈ (frt x).r, c < 256) :=
  ⟨fun c h => x.lt c (List.mem_of_mem_take (front_mem h)), fun c h => x.lt c (List.mem_of_mem_drop (List.mem_of_mem_take (front_mem h))), fun c h => x.lt c (List.mem_of_mem_drop (front_mem h))⟩
theorem tb_frt (x : Tg) : tb (frt x) = x := by
  obtain ⟨a, b, c⟩ := frt_lt x
  refine Tg.eq ?_
  rw [tb_l a b c, tbl]
  have hl := x.len
  simp only [frt]
  rw [padn_front (n := 3) (by simp [pl]; omega), padn_front (n := 4) (by simp [ps]; omega), padn_front (n := 3) (by simp [pr]; omega)]
  simp only [pl, ps, pr]
  rw [show x.l.drop 7 = (x.l.drop 3).drop 4 by rw [List.drop_drop], List.take_append_drop, List.take_append_drop]

theorem join_some3 {p : Pt} (h : p.l ≠ []) : join (some3 p) = txt p := by
  unfold some3 txt
  rw [if_neg h, if_neg h]
  by_cases hs : p.s = [] <;> by_cases hr : p.r = [] <;> simp [hs, hr, join]
theorem spell_tb {p : Pt} (h : Can p) : spell (tb p) = txt p := by
  unfold spell
  rw [hds_tb h]
  by_cases hz : p = rt
  · subst hz
    rw [if_pos (show tb rt = zero from rfl)]; rfl
  · rw [if_neg (fun e : tb p = zero => hz (tb_inj h (.inl rfl) e)), join_some3]
    rcases h with rfl | ⟨hl, _⟩
    · exact absurd rfl hz
    · exact okL_ne hl
theorem pt_tb {p : Pt} (h : Can p) : pt (tb p) = some p := by
  unfold pt
  rw [spell_tb h, parse_txt h]
  simp
theorem pt_some {x : Tg} {p : Pt} (h : pt x = some p) : Can p ∧ tb p = x := by
  unfold pt at h
  split at h
  · cases h
  · rename_i q hq
    split at h
    · rename_i he
      injection h with h
      subst h
      exact ⟨parse_can hq, he⟩
    · cases h
def right (x : Tg) : Bool := (pt x).isSome
/-- The document's way. -/
def rof (x : Tg) : Option Pt := if (frt x).l = [] then (if frt x = rt then some rt else none) else match parse (txt (frt x)) with
  | none => none
  | some q => if q = frt x then some (frt x) else none
theorem rof_eq (x : Tg) : rof x = pt x := by
  cases h : pt x with
  | some p =>
    obtain ⟨hc, rfl⟩ := pt_some h
    unfold rof
    rw [frt_tb hc]
    split
    · rename_i hl
      rcases hc with rfl | ⟨h1, _⟩
      · rfl
      · exact absurd hl (okL_ne h1)
    · rw [parse_txt hc]
      simp
  | none =>
    unfold rof
    have hn : ∀ p, Can p → tb p ≠ x := fun p hp e => by rw [← e, pt_tb hp] at h; cases h
    split
    · rw [if_neg]
      intro e
      exact hn rt (.inl rfl) (by rw [← e]; exact tb_frt x)
    · split
      · rfl
      · rename_i q hq
        rw [if_neg]
        intro e
        exact hn q (parse_can hq) (by rw [e]; exact tb_frt x)

/-- Parents and chains. -/
def par (p : Pt) : Option Pt := if p = rt then none else if p.r ≠ [] then some ⟨p.l, p.s, []⟩ else if p.s ≠ [] then some ⟨p.l, [], []⟩ else some rt
def c1 (p : Pt) : List Pt := if p.l ≠ [] then [rt] else []
def c2 (p : Pt) : List Pt := (if p.s ≠ [] then [⟨p.l, [], p.r⟩] else []) ++ c1 p
def chain (p : Pt) : List Pt := p :: ((if p.r ≠ [] then [⟨p.l, p.s, []⟩] else []) ++ ((if p.s ≠ [] then [⟨p.l, [], []⟩] else []) ++ c1 p))
theorem can_par {p q : Pt} (h : Can p) (e : par p = some q) : Can q := by
  unfold par at e
  rcases h with rfl | ⟨hl, hs, hr⟩
  · simp at e
  · split at e
    · cases e
    · split at e
      · injection e with e; subst e; exact .inr ⟨hl, hs, .inl rfl⟩
      · split at e
        · injection e with e; subst e; exact .inr ⟨hl, .inl rfl, .inl rfl⟩
        · injection e with e; subst e; exact .inl rfl
theorem par_none {p : Pt} : par p = none ↔ p = rt := by
  unfold par
  split
  · simp [*]
  · rename_i h
    split
    · simp [h]
    · split <;> simp [h]
theorem can_r {p : Pt} (h : Can p) (e : p.l = []) : p = rt := by
  rcases h with rfl | ⟨hl, _⟩
  · rfl
  · exact absurd e (okL_ne hl)
theorem chain_rt : chain rt = [rt] := rfl
theorem chain_par {p q : Pt} (h : Can p) (e : par p = some q) : chain p = p :: chain q := by
  have hl : p.l ≠ [] := fun hl => by rw [can_r h hl] at e; cases e
  obtain ⟨l, s, r⟩ := p
  simp only at hl
  unfold par at e
  rw [if_neg (fun h => hl (by rw [show (Pt.mk l s r).l = l from rfl] at *; exact congrArg Pt.l h))] at e
  by_cases hr : r = []
  · subst hr
    by_cases hs : s = []
    · subst hs
      simp at e
      subst e
      simp [chain, c1, hl, rt]
    · simp [hs] at e
      subst e
      simp [chain, c1, hl, hs]
  · simp [hr] at e
    subst e
    by_cases hs : s = []
    · subst hs
      simp [chain, c1, hl, hr]
    · simp [chain, c1, hl, hs, hr]
theorem chain_can {p : Pt} (h : Can p) : ∀ q ∈ chain p, Can q := by
  intro q hq
  obtain ⟨l, s, r⟩ := p
  rcases h with e | ⟨hl, hs, hr⟩
  · rw [e] at hq
    simp [chain_rt] at hq
    subst hq
    exact .inl rfl
  · simp only at hl hs hr
    simp only [chain, c1, List.mem_cons, List.mem_append] at hq
    rcases hq with rfl | hq | hq | hq
    · exact .inr ⟨hl, hs, hr⟩
    · split at hq
      · simp at hq; subst hq; exact .inr ⟨hl, hs, .inl rfl⟩
      · cases hq
    · split at hq
      · simp at hq; subst hq; exact .inr ⟨hl, .inl rfl, .inl rfl⟩
      · cases hq
    · split at hq
      · simp at hq; subst hq; exact .inl rfl
      · cases hq
theorem chain_len (p : Pt) : 1 ≤ (chain p).length ∧ (chain p).length ≤ 4 := by
  by_cases hl : p.l = [] <;> by_cases hs : p.s = [] <;> by_cases hr : p.r = [] <;> simp [chain, c1, hl, hs, hr]
theorem chain_last {p : Pt} (h : Can p) : (chain p)[(chain p).length - 1]? = some rt := by
  obtain ⟨l, s, r⟩ := p
  by_cases hl : l = []
  · rw [can_r h hl]; rfl
  · by_cases hs : s = [] <;> by_cases hr : r = [] <;> simp [chain, c1, hl, hs, hr]
/-- The chain of ten bytes. -/
def cht (x : Tg) : List Tg := match pt x with
  | none => []
  | some p => (chain p).map tb
theorem cht_tb {p : Pt} (h : Can p) : cht (tb p) = (chain p).map tb := by unfold cht; rw [pt_tb h]
theorem cht_no {x : Tg} (h : pt x = none) : cht x = [] := by unfold cht; rw [h]
theorem cht_len (x : Tg) : (cht x).length ≤ 4 := by
  unfold cht
  split
  · simp
  · simp; exact (chain_len _).2
def find (l : List Tg) (k : List Tg) : Option Tg := l.find? (fun x => decide (x ∈ k))
def tpar (x : Tg) : Tg × Bool := match pt x with
  | none => (zero, false)
  | some p => match par p with
    | none => (zero, false)
    | some q => (tb q, true)
/-- Pieces, so many at most. -/
def spn : Nat → List Nat → List (List Nat)
  | 0, t => [t]
  | k + 1, t => if cutM t then cutP t :: spn k (cutR t) else [t]
theorem spn_more : ∀ (k : Nat) (t : List Nat), t.length ≤ k → ∀ j, spn (k + j) t = spn k t
  | 0, t, h, j => by
    have : t = [] := List.eq_nil_of_length_eq_zero (by omega)
    subst this
    cases j <;> rfl
  | k + 1, t, h, j => by
    rw [show k + 1 + j = (k + j) + 1 by omega, spn, spn]
    split
    · rename_i hm
      rw [spn_more k (cutR t) (by have := cutR_lt hm; omega) j]
    · rfl
end D
end Go.Proofs.Ytkhjnfplcaffnaa
set_option linter.unusedVariables false
set_option linter.unusedSimpArgs false
set_option maxRecDepth 100000
namespace Go.Proofs.Ytkhjnfplcaffnaa.Nm
namespace D
open Go.Proofs.Ytkhjnfplcaffnaa.D (ns sb ns_len ns_lt sb_ns ns_sb sb_len ns_inj)

/-- Which of two rows of bytes comes first. -/
def cmp : List Nat → List Nat → Int
  | [], [] => 0
  | [], _ :: _ => -1
  | _ :: _, [] => 1
  | x :: a, y :: b => if x = y then cmp a b else if x < y then -1 else 1
theorem cmp_self : ∀ a, cmp a a = 0
  | [] => rfl
  | x :: a => by rw [cmp, if_pos rfl, cmp_self a]
theorem cmp_neg : ∀ a b, cmp b a = - cmp a b
  | [], [] => rfl
  | [], _ :: _ => rfl
  | _ :: _, [] => rfl
  | x :: a, y :: b => by
    rw [cmp, cmp]
    by_cases h : x = y
    · subst h; rw [if_pos rfl, if_pos rfl, cmp_neg a b]
    · rw [if_neg (fun e => h e.symm), if_neg h]
      by_cases h2 : x < y
      · rw [if_neg (by omega), if_pos h2]; rfl
      · rw [if_pos (by omega), if_neg h2]
theorem cmp_in : ∀ a b, cmp a b = -1 ∨ cmp a b = 0 ∨ cmp a b = 1
  | [], [] => by simp [cmp]
  | [], _ :: _ => by simp [cmp]
  | _ :: _, [] => by simp [cmp]
  | x :: a, y :: b => by
    rw [cmp]
    split
    · exact cmp_in a b
    · split <;> simp
theorem cmp_zero : ∀ a b, cmp a b = 0 ↔ a = b
  | [], [] => by simp [cmp]
  | [], _ :: _ => by simp [cmp]
  | _ :: _, [] => by simp [cmp]
  | x :: a, y :: b => by
    rw [cmp]
    split
    · rename_i h; subst h; rw [cmp_zero a b]; simp
    · rename_i h
      split <;> simp [h]
theorem cmp_trans : ∀ a b c, cmp a b = -1 → cmp b c = -1 → cmp a c = -1
  | [], [], _ => by simp [cmp]
  | [], _ :: _, [] => by simp [cmp]
  | [], _ :: _, _ :: _ => by simp [cmp]
  | _ :: _, [], _ => by simp [cmp]
  | _ :: _, _ :: _, [] => by simp [cmp]
  | x :: a, y :: b, z :: c => by
    simp only [cmp]
    intro h1 h2
    by_cases e1 : x = y
    · subst e1
      rw [if_pos rfl] at h1
      by_cases e2 : x = z
      · subst e2
        rw [if_pos rfl] at h2 ⊢
        exact cmp_trans a b c h1 h2
      · rw [if_neg e2] at h2 ⊢
        exact h2
    · rw [if_neg e1] at h1
      have hxy : x < y := by
        by_cases h : x < y
        · exact h
        · rw [if_neg h] at h1; simp at h1
      by_cases e2 : y = z
      · subst e2
        rw [if_neg e1]; exact h1
      · rw [if_neg e2] at h2
        have hyz : y < z := by
          by_cases h : y < z
          · exact h
          · rw [if_neg h] at h2; simp at h2
        rw [if_neg (by omega), if_pos (by omega)]

def letB (c : Nat) : Bool := decide (97 ≤ c) && decide (c ≤ 122)
def mayB (c : Nat) : Bool := letB c || (decide (48 ≤ c) && decide (c ≤ 57)) || decide (c = 45) || decide (c = 95) || decide (c = 46)
/-- Is it a name's text? -/
def isB (t : List Nat) : Bool := decide (1 ≤ t.length) && decide (t.length ≤ 12) && letB (t.getD 0 0) && t.all mayB
theorem may_bd {c : Nat} (h : mayB c = true) : 1 ≤ c ∧ c ≤ 122 := by
  simp [mayB, letB] at h
  omega
theorem isB_iff {t : List Nat} : isB t = true ↔ 1 ≤ t.length ∧ t.length ≤ 12 ∧ letB (t.getD 0 0) = true ∧ ∀ c ∈ t, mayB c = true := by
  simp [isB, and_assoc]

/-- A name: 12 bytes. -/
structure Nm where
  l : List Nat
  len : l.length = 12
  lt : ∀ b ∈ l, b < 256
theorem Nm.eq {x y : Nm} (h : x.l = y.l) : x = y := by
  cases x; cases y; simp only at h; subst h; rfl
theorem Nm.eq_iff {x y : Nm} : x = y ↔ x.l = y.l := ⟨fun h => by rw [h], Nm.eq⟩
instance : DecidableEq Nm := fun x y => decidable_of_iff (x.l = y.l) Nm.eq_iff.symm
def zero : Nm := ⟨List.replicate 12 0, by simp, by intro b hb; have := (List.mem_replicate.1 hb).2; omega⟩
instance : Inhabited Nm := ⟨zero⟩

/-- The first k bytes of a text, and 0 behind them. -/
def padl (t : List Nat) (k : Nat) : List Nat := (t.take k ++ List.replicate 12 0).take 12
theorem padl_len (t : List Nat) (k : Nat) : (padl t k).length = 12 := by simp [padl]
theorem padl_lt {t : List Nat} (h : ∀ b ∈ t, b < 256) (k : Nat) : ∀ b ∈ padl t k, b < 256 := by
  intro b hb
  rcases List.mem_append.1 (List.mem_of_mem_take hb) with hb | hb
  · exact h b (List.mem_of_mem_take hb)
  · have := (List.mem_replicate.1 hb).2; omega
theorem padl_zero (t : List Nat) : padl t 0 = List.replicate 12 0 := by simp [padl]
theorem padl_next {t : List Nat} {k b : Nat} (hb : t[k]? = some b) (hk : k < 12) : (padl t k).set k b = padl t (k + 1) := by
  obtain ⟨hl, he⟩ := List.getElem?_eq_some_iff.1 hb
  apply List.ext_getElem?
  intro i
  rw [List.getElem?_set, padl_len]
  by_cases hik : k = i
  · subst hik
    rw [if_pos rfl, if_pos hk]
    simp only [padl]
    rw [List.getElem?_take_of_lt hk, List.getElem?_append_left (by simp; omega), List.getElem?_take_of_lt (by omega), hb]
  · rw [if_neg hik]
    simp only [padl]
    by_cases hi : i < 12
    · rw [List.getElem?_take_of_lt hi, List.getElem?_take_of_lt hi]
      by_cases h2 : i < k
      · rw [List.getElem?_append_left (by simp; omega), List.getElem?_append_left (by simp; omega), List.getElem?_take_of_lt h2, List.getElem?_take_of_lt (by omega)]
      · rw [List.getElem?_append_right (by simp; omega), List.getElem?_append_right (by simp; omega)]
        simp only [List.length_take, List.getElem?_replicate]
        rw [if_pos (by omega), if_pos (by omega)]
    · rw [List.getElem?_take_eq_none (by omega), List.getElem?_take_eq_none (by omega)]
theorem padl_all {t : List Nat} (k : Nat) (h : t.length ≤ k) : padl t k = padl t t.length := by simp [padl, List.take_of_length_le h]
theorem padl_12 (t : List Nat) (k : Nat) (h : 12 ≤ k) : padl t k = padl t 12 := by
  by_cases ht : t.length ≤ 12
  · rw [padl_all k (by omega), padl_all 12 ht]
  · simp only [padl]
    rw [List.take_append_of_le_length (by simp; omega), List.take_append_of_le_length (by simp; omega), List.take_take, List.take_take]
    congr 1; omega
def padN (t : List Nat) (h : ∀ b ∈ t, b < 256) : Nm := ⟨padl t 12, padl_len t 12, padl_lt h 12⟩
def pad (s : ByteArray) : Nm := padN (ns s) (ns_lt s)
/-- The bytes ahead of the first byte 0. -/
def hd (l : List Nat) : List Nat := l.takeWhile (fun b => decide (b ≠ 0))
theorem hd_le (l : List Nat) : (hd l).length ≤ l.length := (List.takeWhile_sublist _).length_le
theorem hd_mem {l : List Nat} {b : Nat} (h : b ∈ hd l) : b ∈ l := (List.takeWhile_sublist _).subset h
theorem hd_take {l : List Nat} {k : Nat} (h : ∀ b ∈ l.take k, b ≠ 0) (h0 : l[k]? = some 0 ∨ l.length ≤ k) : hd l = l.take k := by
  induction l generalizing k with
  | nil => simp [hd]
  | cons a l ih =>
    cases k with
    | zero =>
      rcases h0 with h0 | h0
      · simp at h0
        subst h0
        simp [hd]
      · simp at h0
    | succ k =>
      have ha : a ≠ 0 := h a (by simp)
      have := ih (k := k) (fun b hb => h b (by simp [hb])) (by rcases h0 with h0 | h0; exact .inl (by simpa using h0); exact .inr (by simpa using h0))
      simp only [hd] at this ⊢
      rw [List.takeWhile_cons_of_pos (by simpa using ha), this]; rfl
def hdp (x : Nm) : Nm := padN (hd x.l) fun b hb => x.lt b (hd_mem hb)
def right (x : Nm) : Bool := isB (hd x.l) && decide (hdp x = x)
def txt (x : Nm) : List Nat := if right x then hd x.l else []
theorem txt_no {x : Nm} (h : right x = false) : txt x = [] := by simp [txt, h]
theorem txt_yes {x : Nm} (h : right x = true) : txt x = hd x.l := by simp [txt, h]
theorem txt_is {x : Nm} (h : right x = true) : isB (txt x) = true := by
  rw [txt_yes h]
  simp [right] at h
  exact h.1
theorem txt_nil (x : Nm) : (txt x = []) ↔ right x = false := by
  constructor
  · intro h
    cases hr : right x
    · rfl
    · have := txt_is hr
      rw [h] at this
      simp [isB] at this
  · exact txt_no
theorem hd_padl {t : List Nat} (h : isB t = true) : hd (padl t 12) = t := by
  obtain ⟨h1, h2, _, h4⟩ := isB_iff.1 h
  have e : padl t 12 = t ++ List.replicate (12 - t.length) 0 := by
    simp only [padl]
    rw [List.take_of_length_le h2, List.take_append, List.take_of_length_le h2, List.take_replicate]
    congr 2; omega
  have ht : (padl t 12).take t.length = t := by rw [e, List.take_left]
  rw [hd_take (k := t.length), ht]
  · rw [ht]
    intro b hb
    have := may_bd (h4 b hb)
    omega
  · by_cases h12 : t.length = 12
    · right; rw [padl_len]; omega
    · left
      rw [e, List.getElem?_append_right (Nat.le_refl _), Nat.sub_self, List.getElem?_replicate, if_pos (by omega)]
theorem pad_right {t : List Nat} (h : isB t = true) (hb : ∀ b ∈ t, b < 256) : right (padN t hb) = true := by
  have := hd_padl h
  have e : hdp (padN t hb) = padN t hb := Nm.eq (by show padl (hd (padl t 12)) 12 = padl t 12; rw [this])
  simp only [right, e, decide_true, Bool.and_true]
  show isB (hd (padl t 12)) = true
  rw [this, h]
theorem pad_txt {t : List Nat} (h : isB t = true) (hb : ∀ b ∈ t, b < 256) : txt (padN t hb) = t := by
  rw [txt_yes (pad_right h hb)]
  exact hd_padl h
theorem pad_inj {t u : List Nat} (h : isB t = true) (h' : isB u = true) (e : padl t 12 = padl u 12) : t = u := by
  rw [← hd_padl h, e, hd_padl h']

/-- Which name comes first. -/
def less (x y : Nm) : Bool := decide (cmp x.l y.l = -1)
theorem less_irrefl (x : Nm) : less x x = false := by simp [less, cmp_self]
theorem less_trans {x y z : Nm} (h : less x y = true) (k : less y z = true) : less x z = true := by
  simp [less] at *
  exact cmp_trans _ _ _ h k
theorem less_not {x y : Nm} (h : less x y = true) : less y x = false := by
  simp [less] at *
  rw [cmp_neg, h]; simp
theorem less_tot {x y : Nm} (h : less x y = false) (k : less y x = false) : x = y := by
  simp [less] at *
  rw [cmp_neg] at k
  refine Nm.eq ((cmp_zero _ _).1 ?_)
  rcases cmp_in x.l y.l with h1 | h1 | h1 <;> omega
theorem less_ntrans {x y z : Nm} (h : less x y = false) (k : less y z = false) : less x z = false := by
  cases hz : less x z
  · rfl
  · exfalso
    cases hy : less y x
    · have := less_tot h hy
      subst this
      rw [hz] at k; cases k
    · have := less_trans hy hz
      rw [this] at k; cases k
/-- Of names' texts the same comes first: the bytes behind are 0. -/
theorem cmp_zeros : ∀ (a b : List Nat) (i j : Nat), (∀ c ∈ a, c ≠ 0) → (∀ c ∈ b, c ≠ 0) → a.length + i = b.length + j → cmp (a ++ List.replicate i 0) (b ++ List.replicate j 0) = cmp a b
  | [], [], i, j, _, _, h => by
    have : i = j := by simpa using h
    subst this
    rw [List.nil_append, cmp_self]; rfl
  | [], y :: b, i, j, _, hb, h => by
    obtain ⟨m, rfl⟩ : ∃ m, i = m + 1 := ⟨i - 1, by simp at h; omega⟩
    have := hb y (by simp)
    rw [List.replicate_succ, List.nil_append, List.cons_append]
    simp only [cmp]
    rw [if_neg (fun e => this e.symm), if_pos (by omega)]
  | x :: a, [], i, j, ha, _, h => by
    obtain ⟨m, rfl⟩ : ∃ m, j = m + 1 := ⟨j - 1, by simp at h; omega⟩
    have := ha x (by simp)
    rw [List.replicate_succ, List.nil_append, List.cons_append]
    simp only [cmp]
    rw [if_neg this, if_neg (by omega)]
  | x :: a, y :: b, i, j, ha, hb, h => by
    rw [List.cons_append, List.cons_append, cmp, cmp, cmp_zeros a b i j (fun c hc => ha c (by simp [hc])) (fun c hc => hb c (by simp [hc])) (by simp at h; omega)]
theorem cmp_pad {t u : List Nat} (h : isB t = true) (h' : isB u = true) : cmp (padl t 12) (padl u 12) = cmp t u := by
  obtain ⟨_, h2, _, h4⟩ := isB_iff.1 h
  obtain ⟨_, k2, _, k4⟩ := isB_iff.1 h'
  have e : ∀ t : List Nat, t.length ≤ 12 → padl t 12 = t ++ List.replicate (12 - t.length) 0 := by
    intro t h2
    simp only [padl]
    rw [List.take_of_length_le h2, List.take_append, List.take_of_length_le h2, List.take_replicate]
    congr 2; omega
  rw [e t h2, e u k2]
  exact cmp_zeros _ _ _ _ (fun c hc => by have := may_bd (h4 c hc); omega) (fun c hc => by have := may_bd (k4 c hc); omega) (by omega)

/-- A list in order, and one more, behind those that are the same. -/
def ins (l : List Nm) (n : Nm) : List Nm := l.takeWhile (fun y => !less n y) ++ n :: l.dropWhile (fun y => !less n y)
theorem ins_perm (l : List Nm) (n : Nm) : (ins l n).Perm (n :: l) := by
  have := List.takeWhile_append_dropWhile (p := fun y => !less n y) (l := l)
  unfold ins
  exact List.perm_middle.trans (by rw [this])
theorem ins_len (l : List Nm) (n : Nm) : (ins l n).length = l.length + 1 := (ins_perm l n).length_eq.trans (by simp)
theorem mem_ins {l : List Nm} {n x : Nm} : x ∈ ins l n ↔ x = n ∨ x ∈ l := (ins_perm l n).mem_iff.trans List.mem_cons
/-- In order. -/
def Srt (l : List Nm) : Prop := l.Pairwise fun x y => less y x = false
theorem srt_ins {l : List Nm} (h : Srt l) (n : Nm) : Srt (ins l n) := by
  induction l with
  | nil => simp [ins, Srt]
  | cons a l ih =>
    obtain ⟨h1, h2⟩ := List.pairwise_cons.1 h
    by_cases ha : less n a = true
    · have e : ins (a :: l) n = n :: a :: l := by simp [ins, ha]
      rw [e]
      refine List.pairwise_cons.2 ⟨fun y hy => ?_, h⟩
      rcases List.mem_cons.1 hy with rfl | hy
      · exact less_not ha
      · exact less_ntrans (h1 y hy) (less_not ha)
    · have ha' : less n a = false := by simpa using ha
      have e : ins (a :: l) n = a :: ins l n := by simp [ins, ha']
      rw [e]
      refine List.pairwise_cons.2 ⟨fun y hy => ?_, ih h2⟩
      rcases mem_ins.1 hy with rfl | hy
      · exact ha'
      · exact h1 y hy
theorem srt_one {l m : List Nm} (hl : Srt l) (hm : Srt m) (hp : l.Perm m) : l = m :=
  List.Perm.eq_of_pairwise (le := fun x y => less y x = false) (fun a b _ _ h1 h2 => less_tot h2 h1) hl hm hp
/-- The right ones, in order. -/
def want (l : List Nm) : List Nm := (l.filter right).foldl ins []
theorem fold_srt : ∀ (l m : List Nm), Srt m → Srt (l.foldl ins m)
  | [], _, h => h
  | x :: l, m, h => fold_srt l (ins m x) (srt_ins h x)
theorem fold_perm : ∀ (l m : List Nm), (l.foldl ins m).Perm (l ++ m)
  | [], _ => List.Perm.refl _
  | x :: l, m => (fold_perm l (ins m x)).trans (((ins_perm m x).append_left l).trans List.perm_middle)
theorem want_srt (l : List Nm) : Srt (want l) := fold_srt _ _ List.Pairwise.nil
theorem want_perm (l : List Nm) : (want l).Perm (l.filter right) := by
  have := fold_perm (l.filter right) []
  rwa [List.append_nil] at this
theorem want_next {l : List Nm} {i : Nat} {x : Nm} (h : l[i]? = some x) : want (l.take (i + 1)) = if right x then ins (want (l.take i)) x else want (l.take i) := by
  obtain ⟨h1, h2⟩ := List.getElem?_eq_some_iff.1 h
  rw [List.take_succ_eq_append_getElem h1, h2]
  simp only [want, List.filter_append]
  cases hr : right x <;> simp [hr, List.foldl_append]
theorem right_next {l : List Nm} {i : Nat} {x : Nm} (h : l[i]? = some x) : (l.take (i + 1)).filter right = if right x then (l.take i).filter right ++ [x] else (l.take i).filter right := by
  obtain ⟨h1, h2⟩ := List.getElem?_eq_some_iff.1 h
  rw [List.take_succ_eq_append_getElem h1, h2]
  simp only [List.filter_append]
  cases hr : right x <;> simp [hr]
/-- How often. -/
def cnt (l : List Nm) (n : Nm) : Nat := l.countP (fun x => decide (x = n))
theorem cnt_next {l : List Nm} {i : Nat} {x : Nm} (h : l[i]? = some x) (n : Nm) : cnt (l.take (i + 1)) n = if x = n then cnt (l.take i) n + 1 else cnt (l.take i) n := by
  obtain ⟨h1, h2⟩ := List.getElem?_eq_some_iff.1 h
  rw [List.take_succ_eq_append_getElem h1, h2]
  simp only [cnt, List.countP_append, List.countP_singleton]
  split <;> simp_all
theorem cnt_le (l : List Nm) (n : Nm) : cnt l n ≤ l.length := List.countP_le_length
theorem cnt_perm {l m : List Nm} (h : l.Perm m) (n : Nm) : cnt l n = cnt m n := h.countP_eq _
theorem cnt_pos {l : List Nm} {n : Nm} : 0 < cnt l n ↔ n ∈ l := by
  simp [cnt, List.countP_pos_iff]
/-- Without one. -/
def wo (l : List Nm) (n : Nm) : List Nm := l.filter fun x => decide (x ≠ n)
theorem wo_next {l : List Nm} {i : Nat} {x : Nm} (h : l[i]? = some x) (n : Nm) : wo (l.take (i + 1)) n = if x = n then wo (l.take i) n else wo (l.take i) n ++ [x] := by
  obtain ⟨h1, h2⟩ := List.getElem?_eq_some_iff.1 h
  rw [List.take_succ_eq_append_getElem h1, h2]
  simp only [wo, List.filter_append]
  split <;> simp_all
theorem srt_wo {l : List Nm} (h : Srt l) (n : Nm) : Srt (wo l n) := h.filter _
theorem mem_wo {l : List Nm} {n x : Nm} : x ∈ wo l n ↔ x ∈ l ∧ x ≠ n := by simp [wo]
theorem wo_nodup {l : List Nm} (h : l.Nodup) (n : Nm) : (wo l n).Nodup := h.filter _
theorem ins_nodup {l : List Nm} {n : Nm} (h : l.Nodup) (hn : n ∉ l) : (ins l n).Nodup := (ins_perm l n).nodup_iff.2 (List.nodup_cons.2 ⟨hn, h⟩)
theorem wo_len {l : List Nm} (h : l.Nodup) (n : Nm) : (wo l n).length + (if n ∈ l then 1 else 0) = l.length := by
  induction l with
  | nil => simp [wo]
  | cons a l ih =>
    obtain ⟨h1, h2⟩ := List.nodup_cons.1 h
    have := ih h2
    by_cases e : a = n
    · subst e
      have hw : wo (a :: l) a = wo l a := by simp [wo]
      rw [hw]
      rw [if_neg h1] at this
      simp; omega
    · have hw : wo (a :: l) n = a :: wo l n := by simp [wo, e]
      rw [hw]
      have hm : (n ∈ a :: l) ↔ n ∈ l := by rw [List.mem_cons]; exact ⟨fun h => h.resolve_left fun h => e h.symm, .inr⟩
      simp only [hm, List.length_cons]; omega
/-- How many kinds. -/
def kinds (l : List Nm) (k : Nat) : Nat := (List.range k).countP fun i => decide (i = 0) || decide (l[i]? ≠ l[i - 1]?)
theorem kinds_next (l : List Nm) (k : Nat) : kinds l (k + 1) = kinds l k + (if k = 0 ∨ l[k]? ≠ l[k - 1]? then 1 else 0) := by
  simp only [kinds, List.range_succ, List.countP_append, List.countP_singleton]
  simp
theorem kinds_le (l : List Nm) (k : Nat) : kinds l k ≤ k := by
  have := List.countP_le_length (p := fun i => decide (i = 0) || decide (l[i]? ≠ l[i - 1]?)) (l := List.range k)
  simpa [kinds] using this
end D
end Go.Proofs.Ytkhjnfplcaffnaa.Nm
