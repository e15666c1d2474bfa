/-
  Plurals as plain numbers: a tag's language, languages' groups, numbers' categories, sets. No program is spoken of.
-/
import Derived.Test.YtpiajeonnhfanaaDoorGa
set_option linter.unusedVariables false
set_option linter.unusedSimpArgs false
namespace Go.Proofs.YtpiajeonnhfanaaDoor
namespace D
/-- A tag's language, as a text; root's, where the tag is not right. -/
def lg (x : Tg) : List Nat := match pt x with
  | none => rootT
  | some p => txt ⟨p.l, [], []⟩
/-- The languages that have rules of their own, and their groups. -/
def langs : List (List Nat × Nat) := [([106, 97], 1), ([107, 111], 1), ([122, 104], 1), ([118, 105], 1), ([116, 104], 1), ([105, 100], 1), ([102, 114], 2), ([112, 116], 2), ([114, 117], 3), ([117, 107], 3), ([115, 114], 3), ([112, 108], 4), ([99, 115], 5), ([115, 107], 5), ([97, 114], 6), ([108, 116], 7)]
def grp (l : List Nat) : Nat := ((langs.find? (fun q => q.1 == l)).map (·.2)).getD 0
/-- The group of any tag. -/
def gr (x : Tg) : Nat := grp (lg x)
theorem langs_len : ∀ q ∈ langs, q.1.length = 2 := by decide
theorem langs_pos : ∀ q ∈ langs, 1 ≤ q.2 ∧ q.2 ≤ 7 := by decide
theorem grp_le (l : List Nat) : grp l ≤ 7 := by
  unfold grp
  cases h : langs.find? (fun q => q.1 == l) with
  | none => decide
  | some q => exact (langs_pos q (List.mem_of_find?_eq_some h)).2
theorem gr_le (x : Tg) : gr x ≤ 7 := grp_le _
theorem grp_none {l : List Nat} (h : ∀ q ∈ langs, q.1 ≠ l) : grp l = 0 := by
  unfold grp
  rw [List.find?_eq_none.2 (fun q hq => by simpa using h q hq)]
  rfl
theorem grp_root : grp rootT = 0 := by decide
theorem grp_nil : grp [] = 0 := by decide
theorem txt_l (l : List Nat) : txt ⟨l, [], []⟩ = if l = [] then rootT else l := by simp [txt]
/-- The document's group of a tag's parts. -/
theorem grp_txt (l : List Nat) : grp (txt ⟨l, [], []⟩) = grp l := by
  rw [txt_l]
  split
  · rename_i h; subst h; rfl
  · rfl
theorem gr_none {x : Tg} (h : pt x = none) : gr x = 0 := by unfold gr lg; rw [h]; exact grp_root
theorem gr_some {x : Tg} {p : Pt} (h : pt x = some p) : gr x = grp p.l := by unfold gr lg; rw [h]; exact grp_txt p.l
/-- The tag of a tag's language alone. -/
def lt3 (x : Tg) : Tg := ⟨pl x ++ [0, 0, 0, 0, 0, 0, 0], by have := x.len; simp [pl]; omega, by
  intro b hb
  rcases List.mem_append.1 hb with h | h
  · exact x.lt b (List.mem_of_mem_take h)
  · have : b = 0 := by simpa using h
    omega⟩
theorem can_l {p : Pt} (h : Can p) : Can ⟨p.l, [], []⟩ := by
  rcases h with rfl | ⟨hl, _⟩
  · exact .inl rfl
  · exact .inr ⟨hl, .inl rfl, .inl rfl⟩
theorem lt3_some {x : Tg} {p : Pt} (h : pt x = some p) : lt3 x = tb ⟨p.l, [], []⟩ := by
  obtain ⟨hc, rfl⟩ := pt_some h
  refine Tg.eq ?_
  rw [can_tb (can_l hc)]
  show pl (tb p) ++ _ = _
  rw [(parts_tb hc).1]
  rfl
theorem lt3_zero : lt3 zero = zero := by decide
/-- A number's category in a group. -/
def few (n : Nat) : Bool := decide (2 ≤ n % 10 ∧ n % 10 ≤ 4 ∧ ¬ (12 ≤ n % 100 ∧ n % 100 ≤ 14))
def teen (n : Nat) : Bool := decide (11 ≤ n % 100 ∧ n % 100 ≤ 19)
def pof (g n : Nat) : Nat :=
  if g = 1 then 5
  else if g = 2 then (if n = 0 ∨ n = 1 then 1 else 5)
  else if g = 3 then (if n % 10 = 1 ∧ n % 100 ≠ 11 then 1 else if few n then 3 else 4)
  else if g = 4 then (if n = 1 then 1 else if few n then 3 else 4)
  else if g = 5 then (if n = 1 then 1 else if 2 ≤ n ∧ n ≤ 4 then 3 else 5)
  else if g = 6 then (if n ≤ 2 then n else if 3 ≤ n % 100 ∧ n % 100 ≤ 10 then 3 else if 11 ≤ n % 100 then 4 else 5)
  else if g = 7 then (if n % 10 = 1 ∧ teen n = false then 1 else if 2 ≤ n % 10 ∧ teen n = false then 3 else 5)
  else (if n = 1 then 1 else 5)
theorem pof_le (g n : Nat) : pof g n ≤ 5 := by
  unfold pof
  repeat' split
  all_goals omega
theorem few_more (n : Nat) : few (n + 100) = few n := by unfold few; rw [show (n + 100) % 10 = n % 10 by omega, show (n + 100) % 100 = n % 100 by omega]
theorem teen_more (n : Nat) : teen (n + 100) = teen n := by unfold teen; rw [show (n + 100) % 100 = n % 100 by omega]
/-- From 100 on, 100 more is the same category. -/
theorem pof_more {g n : Nat} (hg : g = 3 ∨ g = 4 ∨ g = 6 ∨ g = 7) (hn : 100 ≤ n) : pof g (n + 100) = pof g n := by
  have e1 : ¬ n = 1 := by omega
  have e2 : ¬ n + 100 = 1 := by omega
  have e3 : ¬ n ≤ 2 := by omega
  have e4 : ¬ n + 100 ≤ 2 := by omega
  have m1 : (n + 100) % 10 = n % 10 := by omega
  have m2 : (n + 100) % 100 = n % 100 := by omega
  rcases hg with rfl | rfl | rfl | rfl
  · show (if (n + 100) % 10 = 1 ∧ (n + 100) % 100 ≠ 11 then 1 else if few (n + 100) then 3 else 4) = _
    rw [m1, m2, few_more]; rfl
  · show (if n + 100 = 1 then 1 else if few (n + 100) then 3 else 4) = (if n = 1 then 1 else if few n then 3 else 4)
    rw [if_neg e1, if_neg e2, few_more]
  · show (if n + 100 ≤ 2 then n + 100 else if 3 ≤ (n + 100) % 100 ∧ (n + 100) % 100 ≤ 10 then 3 else if 11 ≤ (n + 100) % 100 then 4 else 5) = (if n ≤ 2 then n else if 3 ≤ n % 100 ∧ n % 100 ≤ 10 then 3 else if 11 ≤ n % 100 then 4 else 5)
    rw [if_neg e3, if_neg e4, m2]
  · show (if (n + 100) % 10 = 1 ∧ teen (n + 100) = false then 1 else if 2 ≤ (n + 100) % 10 ∧ teen (n + 100) = false then 3 else 5) = _
    rw [m1, teen_more]; rfl
/-- Tests of numbers: those from one to another; by the rest; both, and not; each. -/
inductive Ts where
  | am (lo hi : Nat)
  | re (d lo hi : Nat)
  | bu (d lo hi d' lo' hi' : Nat)
  | al
def Ts.ev (n : Nat) : Ts → Bool
  | .am lo hi => decide (lo ≤ n ∧ n ≤ hi)
  | .re d lo hi => decide (lo ≤ n % d ∧ n % d ≤ hi)
  | .bu d lo hi d' lo' hi' => decide (lo ≤ n % d ∧ n % d ≤ hi) && !decide (lo' ≤ n % d' ∧ n % d' ≤ hi')
  | .al => true
/-- The rules of a group. -/
def rls (g : Nat) : List (Nat × Ts) :=
  if g = 1 then []
  else if g = 2 then [(1, .am 0 1)]
  else if g = 3 then [(1, .bu 10 1 1 100 11 11), (3, .bu 10 2 4 100 12 14), (4, .al)]
  else if g = 4 then [(1, .am 1 1), (3, .bu 10 2 4 100 12 14), (4, .al)]
  else if g = 5 then [(1, .am 1 1), (3, .am 2 4)]
  else if g = 6 then [(0, .am 0 0), (1, .am 1 1), (2, .am 2 2), (3, .re 100 3 10), (4, .re 100 11 99)]
  else if g = 7 then [(1, .bu 10 1 1 100 11 19), (3, .bu 10 2 9 100 11 19)]
  else [(1, .am 1 1)]
/-- The category of the first rule that takes a number. -/
def fst (n : Nat) : List (Nat × Ts) → Nat
  | [] => 5
  | (c, t) :: r => if t.ev n then c else fst n r
theorem fst_pof {g : Nat} (hg : g ≤ 7) (n : Nat) : fst n (rls g) = pof g n := by
  obtain rfl | rfl | rfl | rfl | rfl | rfl | rfl | rfl : g = 0 ∨ g = 1 ∨ g = 2 ∨ g = 3 ∨ g = 4 ∨ g = 5 ∨ g = 6 ∨ g = 7 := by omega
  all_goals simp [rls, fst, pof, Ts.ev, few, teen]
  all_goals repeat' split
  all_goals first | rfl | omega
theorem rls_len (g : Nat) : (rls g).length ≤ 5 := by
  unfold rls
  repeat' split
  all_goals decide
theorem rls_cat {g : Nat} : ∀ q ∈ rls g, q.1 ≤ 4 := by
  unfold rls
  repeat' split
  all_goals decide
/-- A group's set, a bit for each category. -/
def sets (l : List (Nat × Ts)) : Nat := l.foldl (fun s q => s ||| 2 ^ q.1) 32
def setw (g : Nat) : Nat := sets (rls g)
def inn (g c : Nat) : Bool := setw g >>> c % 2 == 1
/-- The categories that some number below k has, and other. -/
def seen (g : Nat) : Nat → List Bool
  | 0 => [false, false, false, false, false, true]
  | k + 1 => (seen g k).set (pof g k) true
theorem seen_len (g k : Nat) : (seen g k).length = 6 := by
  induction k with
  | zero => rfl
  | succ k ih => simp [seen, ih]
theorem seen_all {g : Nat} (hg : g ≤ 7) : seen g 300 = (List.range 6).map (inn g) := by
  obtain rfl | rfl | rfl | rfl | rfl | rfl | rfl | rfl : g = 0 ∨ g = 1 ∨ g = 2 ∨ g = 3 ∨ g = 4 ∨ g = 5 ∨ g = 6 ∨ g = 7 := by omega
  all_goals decide +kernel
/-- A number's category is of the set. -/
theorem pof_inn {g : Nat} (hg : g ≤ 7) (n : Nat) : inn g (pof g n) = true := by
  rw [← fst_pof hg]
  obtain rfl | rfl | rfl | rfl | rfl | rfl | rfl | rfl : g = 0 ∨ g = 1 ∨ g = 2 ∨ g = 3 ∨ g = 4 ∨ g = 5 ∨ g = 6 ∨ g = 7 := by omega
  all_goals
    simp only [rls, fst, Nat.reduceEqDiff, if_true, if_false, reduceIte]
    repeat' split
  all_goals decide
theorem oth_inn {g : Nat} (hg : g ≤ 7) : inn g 5 = true := by
  obtain rfl | rfl | rfl | rfl | rfl | rfl | rfl | rfl : g = 0 ∨ g = 1 ∨ g = 2 ∨ g = 3 ∨ g = 4 ∨ g = 5 ∨ g = 6 ∨ g = 7 := by omega
  all_goals decide
theorem setw_lt {g : Nat} (hg : g ≤ 7) : setw g < 64 := by
  obtain rfl | rfl | rfl | rfl | rfl | rfl | rfl | rfl : g = 0 ∨ g = 1 ∨ g = 2 ∨ g = 3 ∨ g = 4 ∨ g = 5 ∨ g = 6 ∨ g = 7 := by omega
  all_goals decide
/-- The categories of a group below c, rising. -/
def cats (g : Nat) : Nat → List Nat
  | 0 => []
  | c + 1 => if inn g c then cats g c ++ [c] else cats g c
theorem cats_lt (g : Nat) : ∀ c, ∀ b ∈ cats g c, b < c
  | 0, b, h => by cases h
  | c + 1, b, h => by
    rw [cats] at h
    split at h
    · rcases List.mem_append.1 h with h | h
      · have := cats_lt g c b h; omega
      · have : b = c := by simpa using h
        omega
    · have := cats_lt g c b h; omega
theorem cats_len (g : Nat) : ∀ c, (cats g c).length ≤ c
  | 0 => by simp [cats]
  | c + 1 => by
    have := cats_len g c
    rw [cats]
    split
    · simp; omega
    · omega
/-- The words. -/
def wrds : List (List Nat) := [[122, 101, 114, 111], [111, 110, 101], [116, 119, 111], [102, 101, 119], [109, 97, 110, 121], [111, 116, 104, 101, 114]]
def wrd (c : Int) : List Nat := if 0 ≤ c ∧ c ≤ 5 then wrds.getD c.toNat [] else []
end D
end Go.Proofs.YtpiajeonnhfanaaDoor
