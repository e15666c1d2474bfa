/-
  Tags as lists of plain numbers: which texts are tags, their parts, their bytes, parents and chains. No program is spoken of.
-/

set_option linter.unusedVariables false
set_option linter.unusedSimpArgs false
namespace Go.Proofs.YtgobbdfgjgjigaaGreatDoor
namespace D

/-- A text's bytes, and the text of bytes. -/
def ns (s : ByteArray) : List Nat := s.data.toList.map (·.toNat)
def sb (l : List Nat) : ByteArray := ⟨(l.map UInt8.ofNat).toArray⟩
theorem ns_len (s : ByteArray) : (ns s).length = s.size := by simp [ns]
theorem ns_lt (s : ByteArray) : ∀ b ∈ ns s, b < 256 := by
  intro b hb
  obtain ⟨u, _, rfl⟩ := List.mem_map.1 hb
  exact u.toNat_lt
theorem sb_ns (s : ByteArray) : sb (ns s) = s := by
  have e : (UInt8.ofNat ∘ fun x : UInt8 => x.toNat) = id := by funext x; simp
  have : (ns s).map UInt8.ofNat = s.data.toList := by rw [ns, List.map_map, e, List.map_id]
  rw [sb, this]
theorem ns_sb {l : List Nat} (h : ∀ b ∈ l, b < 256) : ns (sb l) = l := by
  simp only [ns, sb, List.map_map]
  have : ∀ b ∈ l, ((fun u : UInt8 => u.toNat) ∘ UInt8.ofNat) b = id b := fun b hb => by
    have := h b hb
    simp; omega
  rw [List.map_congr_left this, List.map_id]
theorem sb_len (l : List Nat) : (sb l).size = l.length := by simp [sb, ByteArray.size]
theorem ns_inj {s t : ByteArray} (h : ns s = ns t) : s = t := by rw [← sb_ns s, h, sb_ns]
/-- Letters, digits; small and great ones. -/
def letB (c : Nat) : Bool := decide ((97 ≤ c ∧ c ≤ 122) ∨ (65 ≤ c ∧ c ≤ 90))
def digB (c : Nat) : Bool := decide (48 ≤ c ∧ c ≤ 57)
def lowB (c : Nat) : Nat := if 65 ≤ c ∧ c ≤ 90 then c + 32 else c
def upB (c : Nat) : Nat := if 97 ≤ c ∧ c ≤ 122 then c - 32 else c
def low (l : List Nat) : List Nat := l.map lowB
def up (l : List Nat) : List Nat := l.map upB
def cap (l : List Nat) : List Nat := up (l.take 1) ++ low (l.drop 1)
def allL (t : List Nat) : Bool := t.all letB
def allD (t : List Nat) : Bool := t.all digB
def isL (t : List Nat) : Bool := (t.length == 2 || t.length == 3) && allL t
def isS (t : List Nat) : Bool := t.length == 4 && allL t
def isR (t : List Nat) : Bool := t.length == 2 && allL t || t.length == 3 && allD t
theorem low_len (l : List Nat) : (low l).length = l.length := by simp [low]
theorem up_len (l : List Nat) : (up l).length = l.length := by simp [up]
theorem cap_len (l : List Nat) : (cap l).length = l.length := by simp [cap, up, low]; omega
theorem letB_low (c : Nat) : letB (lowB c) = letB c := by
  unfold letB lowB
  rw [Bool.eq_iff_iff]
  split <;> simp only [decide_eq_true_eq] <;> omega
theorem letB_up (c : Nat) : letB (upB c) = letB c := by
  unfold letB upB
  rw [Bool.eq_iff_iff]
  split <;> simp only [decide_eq_true_eq] <;> omega
theorem digB_up (c : Nat) : digB (upB c) = digB c := by
  unfold digB upB
  rw [Bool.eq_iff_iff]
  split <;> simp only [decide_eq_true_eq] <;> omega
theorem lowB_low (c : Nat) : lowB (lowB c) = lowB c := by unfold lowB; split <;> (try split) <;> omega
theorem upB_up (c : Nat) : upB (upB c) = upB c := by unfold upB; split <;> (try split) <;> omega
theorem allL_low (l : List Nat) : allL (low l) = allL l := by simp [allL, low, List.all_map, Function.comp_def, letB_low]
theorem allL_up (l : List Nat) : allL (up l) = allL l := by simp [allL, up, List.all_map, Function.comp_def, letB_up]
theorem allD_up (l : List Nat) : allD (up l) = allD l := by simp [allD, up, List.all_map, Function.comp_def, digB_up]
theorem allL_app (l k : List Nat) : allL (l ++ k) = (allL l && allL k) := by simp [allL]
theorem low_low (l : List Nat) : low (low l) = low l := by simp [low, Function.comp_def, lowB_low]
theorem up_up (l : List Nat) : up (up l) = up l := by simp [up, Function.comp_def, upB_up]
theorem allL_cap (l : List Nat) : allL (cap l) = allL l := by
  rw [cap, allL_app, allL_up, allL_low, ← allL_app, List.take_append_drop]
theorem cap_cap (l : List Nat) : cap (cap l) = cap l := by
  cases l with
  | nil => rfl
  | cons c t =>
    show cap (up [c] ++ low t) = up [c] ++ low t
    show up [upB c] ++ low (low t) = up [c] ++ low t
    rw [low_low]
    simp [up, upB_up]
theorem isL_low (l : List Nat) : isL (low l) = isL l := by simp only [isL, low_len, allL_low]
theorem isS_cap (l : List Nat) : isS (cap l) = isS l := by simp only [isS, cap_len, allL_cap]
theorem isR_up (l : List Nat) : isR (up l) = isR l := by simp only [isR, up_len, allL_up, allD_up]
theorem isL_iff {l : List Nat} : isL l = true ↔ (l.length = 2 ∨ l.length = 3) ∧ allL l = true := by simp [isL]
theorem isS_iff {l : List Nat} : isS l = true ↔ l.length = 4 ∧ allL l = true := by simp [isS]
theorem isR_iff {l : List Nat} : isR l = true ↔ (l.length = 2 ∧ allL l = true) ∨ (l.length = 3 ∧ allD l = true) := by simp [isR]
/-- Which bytes letters and digits are. -/
def Ch (c : Nat) : Prop := 48 ≤ c ∧ c ≤ 122
theorem ch_L {l : List Nat} (h : allL l = true) : ∀ c ∈ l, Ch c := fun c hc => by
  have := List.all_eq_true.1 h c hc
  simp [letB] at this
  unfold Ch; omega
theorem ch_D {l : List Nat} (h : allD l = true) : ∀ c ∈ l, Ch c := fun c hc => by
  have := List.all_eq_true.1 h c hc
  simp [digB] at this
  unfold Ch; omega
theorem ch_R {l : List Nat} (h : isR l = true) : ∀ c ∈ l, Ch c := by
  rcases isR_iff.1 h with ⟨_, h⟩ | ⟨_, h⟩
  · exact ch_L h
  · exact ch_D h

/-- The parts of a tag. -/
structure Pt where
  l : List Nat
  s : List Nat
  r : List Nat
  deriving DecidableEq
def rt : Pt := ⟨[], [], []⟩
def rootT : List Nat := [114, 111, 111, 116]

/-- The pieces of a text between its - bytes. -/
def spl : List Nat → List (List Nat)
  | [] => [[]]
  | c :: t => if c = 45 then [] :: spl t else match spl t with
    | [] => [[c]]
    | p :: ps => (c :: p) :: ps
/-- The first piece, the rest, and whether there is more. -/
def cutP : List Nat → List Nat
  | [] => []
  | c :: t => if c = 45 then [] else c :: cutP t
def cutR : List Nat → List Nat
  | [] => []
  | c :: t => if c = 45 then t else cutR t
def cutM (t : List Nat) : Bool := t.contains 45
theorem spl_cut : ∀ t, spl t = cutP t :: (if cutM t then spl (cutR t) else [])
  | [] => rfl
  | c :: t => by
    rw [spl, cutP, cutR]
    by_cases h : c = 45
    · subst h
      simp [cutM]
    · rw [if_neg h, if_neg h, if_neg h, spl_cut t]
      have : cutM (c :: t) = cutM t := by
        simp only [cutM, List.contains_cons]
        rw [show ((45 : Nat) == c) = false by simp; omega, Bool.false_or]
      rw [this]
theorem cut_none : ∀ t, cutM t = false → cutP t = t ∧ cutR t = []
  | [], _ => ⟨rfl, rfl⟩
  | c :: t, h => by
    simp only [cutM, List.contains_cons, Bool.or_eq_false_iff] at h
    have hc : ¬ c = 45 := by have := h.1; simp at this; omega
    obtain ⟨h1, h2⟩ := cut_none t h.2
    rw [cutP, cutR, if_neg hc, if_neg hc, h1, h2]
    exact ⟨rfl, rfl⟩
theorem cut_at : ∀ {t : List Nat} {k : Nat}, t[k]? = some 45 → (∀ i, i < k → t[i]? ≠ some 45) → cutP t = t.take k ∧ cutR t = t.drop (k + 1) ∧ cutM t = true
  | [], k, h, _ => by simp at h
  | c :: t, 0, h, _ => by
    simp at h
    subst h
    simp [cutP, cutR, cutM]
  | c :: t, k + 1, h, hn => by
    have hc : ¬ c = 45 := fun e => hn 0 (by omega) (by simp [e])
    obtain ⟨h1, h2, h3⟩ := cut_at (t := t) (k := k) (by simpa using h) (fun i hi => by have := hn (i + 1) (by omega); simpa using this)
    rw [cutP, cutR, if_neg hc, if_neg hc, h1, h2]
    refine ⟨rfl, rfl, ?_⟩
    simp only [cutM, List.contains_cons] at h3 ⊢
    rw [h3, Bool.or_true]
theorem cutM_no {t : List Nat} (h : ∀ i, i < t.length → t[i]? ≠ some 45) : cutM t = false := by
  cases e : cutM t
  · rfl
  · simp only [cutM, List.contains_iff_mem] at e
    obtain ⟨i, hi, he⟩ := List.getElem_of_mem e
    exact absurd (by rw [List.getElem?_eq_getElem hi, he]) (h i hi)
theorem cutR_lt {t : List Nat} (h : cutM t = true) : (cutR t).length < t.length := by
  induction t with
  | nil => simp [cutM] at h
  | cons c t ih =>
    rw [cutR]
    split
    · simp
    · rename_i hc
      simp only [cutM, List.contains_cons] at h
      rw [show ((45 : Nat) == c) = false by simp; omega, Bool.false_or] at h
      have := ih h
      simp; omega
theorem cutP_len (t : List Nat) : (cutP t).length ≤ t.length := by
  induction t with
  | nil => simp [cutP]
  | cons a t ih => rw [cutP]; split <;> simp; exact ih

/-- One more piece. -/
def step (t : Pt) (p : List Nat) : Option Pt := if isS p && t.s == [] && t.r == [] then some ⟨t.l, cap p, t.r⟩ else if isR p && t.r == [] then some ⟨t.l, t.s, up p⟩ else none
def foldP (t : Pt) : List (List Nat) → Option Pt
  | [] => some t
  | p :: ps => match step t p with
    | none => none
    | some u => foldP u ps
/-- The parts of a text. -/
def parse (s : List Nat) : Option Pt := if s = rootT then some rt else if isL (cutP s) then (if cutM s then foldP ⟨low (cutP s), [], []⟩ (spl (cutR s)) else some ⟨low (cutP s), [], []⟩) else none

/-- Right parts. -/
def okL (l : List Nat) : Prop := isL l = true ∧ low l = l
def okS (l : List Nat) : Prop := isS l = true ∧ cap l = l
def okR (l : List Nat) : Prop := isR l = true ∧ up l = l
theorem ok_low {l : List Nat} (h : isL l = true) : okL (low l) := ⟨by rw [isL_low]; exact h, low_low l⟩
theorem ok_cap {l : List Nat} (h : isS l = true) : okS (cap l) := ⟨by rw [isS_cap]; exact h, cap_cap l⟩
theorem ok_up {l : List Nat} (h : isR l = true) : okR (up l) := ⟨by rw [isR_up]; exact h, up_up l⟩
theorem okL_ch {l : List Nat} (h : okL l) : ∀ c ∈ l, Ch c := ch_L (isL_iff.1 h.1).2
theorem okS_ch {l : List Nat} (h : okS l) : ∀ c ∈ l, Ch c := ch_L (isS_iff.1 h.1).2
theorem okR_ch {l : List Nat} (h : okR l) : ∀ c ∈ l, Ch c := ch_R h.1
end D
end Go.Proofs.YtgobbdfgjgjigaaGreatDoor
