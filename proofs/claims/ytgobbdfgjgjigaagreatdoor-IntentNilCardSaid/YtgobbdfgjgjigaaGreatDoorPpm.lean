/-
  The parts of a text, told by its first three pieces and the rest. No program is spoken of.
-/
import Derived.Test.YtgobbdfgjgjigaaGreatDoorTgm
set_option linter.unusedVariables false
set_option linter.unusedSimpArgs false
namespace Go.Proofs.YtgobbdfgjgjigaaGreatDoor
namespace D

/-- What a language and the pieces behind it come to. -/
def tail3 (l : List Nat) : List (List Nat) → Option Pt
  | [] => some ⟨l, [], []⟩
  | [a] => if isS a then some ⟨l, cap a, []⟩ else if isR a then some ⟨l, [], up a⟩ else none
  | [a, b] => if isS a then (if isR b then some ⟨l, cap a, up b⟩ else none) else none
  | _ => none
theorem up_ne {l : List Nat} (h : isR l = true) : up l ≠ [] := by
  intro e
  have e : l.length = 0 := by rw [← up_len, e]; rfl
  rcases isR_iff.1 h with ⟨h, _⟩ | ⟨h, _⟩ <;> omega
theorem cap_ne {l : List Nat} (h : isS l = true) : cap l ≠ [] := by
  intro e
  have e : l.length = 0 := by rw [← cap_len, e]; rfl
  have := (isS_iff.1 h).1
  omega
theorem step_full {t : Pt} (h : t.r ≠ []) (p : List Nat) : step t p = none := by unfold step; simp [h]
theorem step_first (l a : List Nat) : step ⟨l, [], []⟩ a = if isS a then some ⟨l, cap a, []⟩ else if isR a then some ⟨l, [], up a⟩ else none := by unfold step; simp
theorem step_second {s : List Nat} (hs : s ≠ []) (l a : List Nat) : step ⟨l, s, []⟩ a = if isR a then some ⟨l, s, up a⟩ else none := by unfold step; simp [hs]
theorem fold_tail (l : List Nat) : ∀ q : List (List Nat), q.length ≤ 2 → foldP ⟨l, [], []⟩ q = tail3 l q
  | [], _ => rfl
  | [a], _ => by
    rw [foldP, step_first, tail3]
    by_cases h : isS a = true
    · simp [h, foldP]
    · by_cases h' : isR a = true
      · simp [h, h', foldP]
      · simp [h, h']
  | [a, b], _ => by
    rw [foldP, step_first, tail3]
    by_cases h : isS a = true
    · rw [if_pos h, if_pos h]
      simp only
      rw [foldP, step_second (cap_ne h)]
      by_cases h' : isR b = true
      · simp [h', foldP]
      · simp [h']
    · rw [if_neg h, if_neg h]
      by_cases h' : isR a = true
      · rw [if_pos h']
        simp only
        rw [foldP, step_full (up_ne h')]
      · rw [if_neg h']
  | a :: b :: c :: r, h => by simp at h
theorem fold_long (l a b c : List Nat) (r : List (List Nat)) : foldP ⟨l, [], []⟩ (a :: b :: c :: r) = none := by
  rw [foldP, step_first]
  by_cases h : isS a = true
  · rw [if_pos h]
    simp only
    rw [foldP, step_second (cap_ne h)]
    by_cases h' : isR b = true
    · rw [if_pos h']
      simp only
      rw [foldP, step_full (up_ne h')]
    · rw [if_neg h']
  · rw [if_neg h]
    by_cases h' : isR a = true
    · rw [if_pos h']
      simp only
      rw [foldP, step_full (up_ne h')]
    · rw [if_neg h']
theorem spl_ne (t : List Nat) : ∃ p ps, spl t = p :: ps := ⟨_, _, spl_cut t⟩
theorem parse_spn {s : List Nat} (h : s ≠ rootT) : ∃ p q, spn 3 s = p :: q ∧ q.length ≤ 3 ∧ parse s = if isL p then tail3 (low p) q else none := by
  unfold parse
  rw [if_neg h]
  rw [spn]
  cases h1 : cutM s
  · refine ⟨s, [], by simp, by simp, ?_⟩
    rw [(cut_none s h1).1]
    simp [tail3]
  · rw [if_pos rfl, if_pos rfl, spl_cut, spn]
    cases h2 : cutM (cutR s)
    · refine ⟨_, _, rfl, by simp, ?_⟩
      rw [(cut_none _ h2).1, ← fold_tail _ _ (by simp)]
      simp
    · rw [if_pos rfl, if_pos rfl, spl_cut, spn]
      cases h3 : cutM (cutR (cutR s))
      · refine ⟨_, _, rfl, by simp, ?_⟩
        rw [(cut_none _ h3).1, ← fold_tail _ _ (by simp)]
        simp
      · rw [if_pos rfl, if_pos rfl]
        obtain ⟨p, ps, e⟩ := spl_ne (cutR (cutR (cutR s)))
        refine ⟨_, _, rfl, by simp [spn], ?_⟩
        rw [e, fold_long]
        simp [spn, tail3]
end D
end Go.Proofs.YtgobbdfgjgjigaaGreatDoor
