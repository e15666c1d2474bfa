/-
  Keys' owners: Take, Drop, by a function (mathematics).
-/
import Derived.Test.YtgobbdfgjgjigaaGreatDoorKmx
set_option linter.unusedVariables false
set_option linter.unusedSimpArgs false
namespace Go.Proofs.YtgobbdfgjgjigaaGreatDoor.D
/-- Owners of keys, and how many keys have one. -/
structure It where
  f : Ky → Option Int
  n : Nat
def It.zero : It := ⟨fun _ => none, 0⟩
def It.put (s : It) (k : Ky) (o : Int) : It := ⟨fun x => if x = k then some o else s.f x, if (s.f k).isSome then s.n else s.n + 1⟩
def It.del (s : It) (k : Ky) : It := ⟨fun x => if x = k then none else s.f x, s.n - 1⟩
/-- May an owner take a key? -/
def It.err (s : It) (o : Int) (k : Ky) : Nat := if kright k = true then (match s.f k with | some v => if v = o then 0 else 11 | none => 0) else 3
def It.take (s : It) (o : Int) : List Ky → It × Nat
  | [] => (s, 0)
  | k :: r => if s.err o k = 0 then (s.put k o).take o r else (s, s.err o k)
def It.drop (s : It) (o : Int) : List Ky → It × Nat
  | [] => (s, 0)
  | k :: r => if s.f k = some o then (((s.del k).drop o r).1, ((s.del k).drop o r).2 + 1) else s.drop o r
theorem It.put_n (s : It) (k : Ky) (o : Int) : s.n ≤ (s.put k o).n ∧ (s.put k o).n ≤ s.n + 1 := by
  unfold It.put
  simp only
  split <;> omega
theorem It.put_f (s : It) (k : Ky) (o : Int) : (s.put k o).f k = some o := if_pos rfl
theorem It.put_o {s : It} {k x : Ky} {o : Int} (h : x ≠ k) : (s.put k o).f x = s.f x := if_neg h
theorem It.del_f (s : It) (k : Ky) : (s.del k).f k = none := if_pos rfl
theorem It.del_o {s : It} {k x : Ky} (h : x ≠ k) : (s.del k).f x = s.f x := if_neg h
theorem It.err_le (s : It) (o : Int) (k : Ky) : s.err o k ≤ 11 := by
  unfold It.err
  repeat' split
  all_goals omega
/-- Nobody has a key, where there is none; one that is counted by itself. -/
structure It.Cnt (s : It) : Prop where
  out : ∃ l : List Ky, l.Nodup ∧ l.length = s.n ∧ ∀ x, x ∈ l ↔ (s.f x).isSome = true
theorem It.Cnt.put {s : It} (h : s.Cnt) (k : Ky) (o : Int) : (s.put k o).Cnt := by
  obtain ⟨l, h1, h2, h3⟩ := h.out
  by_cases e : (s.f k).isSome = true
  · refine ⟨l, h1, by unfold It.put; simp only; rw [if_pos e]; exact h2, fun x => ?_⟩
    by_cases ex : x = k
    · subst ex
      rw [It.put_f]
      exact ⟨fun _ => rfl, fun _ => (h3 x).2 e⟩
    · rw [It.put_o ex]
      exact h3 x
  · refine ⟨k :: l, List.nodup_cons.2 ⟨fun hk => e ((h3 k).1 hk), h1⟩, by unfold It.put; simp only; rw [if_neg e, List.length_cons, h2], fun x => ?_⟩
    by_cases ex : x = k
    · subst ex
      rw [It.put_f]
      exact ⟨fun _ => rfl, fun _ => List.mem_cons_self⟩
    · rw [It.put_o ex, ← h3 x, List.mem_cons]
      exact ⟨fun h => h.resolve_left ex, .inr⟩
theorem It.Cnt.del {s : It} (h : s.Cnt) {k : Ky} (hk : (s.f k).isSome = true) : (s.del k).Cnt := by
  obtain ⟨l, h1, h2, h3⟩ := h.out
  refine ⟨l.erase k, h1.erase k, ?_, fun x => ?_⟩
  · rw [List.length_erase_of_mem ((h3 k).2 hk), h2]
    rfl
  · rw [h1.mem_erase_iff]
    by_cases ex : x = k
    · subst ex
      rw [It.del_f]
      exact ⟨fun h => absurd rfl h.1, fun h => by cases h⟩
    · rw [It.del_o ex, h3 x]
      exact ⟨fun h => h.2, fun h => ⟨ex, h⟩⟩
theorem It.Cnt.pos {s : It} (h : s.Cnt) {k : Ky} (hk : (s.f k).isSome = true) : 0 < s.n := by
  obtain ⟨l, h1, h2, h3⟩ := h.out
  rw [← h2]
  exact List.length_pos_of_mem ((h3 k).2 hk)
/-- Fit to be held: counted, so many at most, owners that are numbers. -/
structure It.Fit (s : It) (c : Nat) : Prop where
  le : s.n ≤ c
  wf : ∀ x v, s.f x = some v → 1 ≤ v ∧ v ≤ 9223372036854775807
  cnt : s.Cnt
theorem It.Fit.more {s : It} {c c' : Nat} (h : s.Fit c) (hc : c ≤ c') : s.Fit c' := ⟨Nat.le_trans h.le hc, h.wf, h.cnt⟩
theorem It.Fit.put {s : It} {c : Nat} (h : s.Fit c) (k : Ky) {o : Int} (h1 : 1 ≤ o) (h2 : o ≤ 9223372036854775807) : (s.put k o).Fit (c + 1) :=
  ⟨Nat.le_trans (It.put_n s k o).2 (Nat.succ_le_succ h.le), fun x v hx => by
    by_cases e : x = k
    · subst e
      rw [It.put_f] at hx
      injection hx with hx
      subst hx
      exact ⟨h1, h2⟩
    · rw [It.put_o e] at hx
      exact h.wf x v hx, h.cnt.put k o⟩
theorem It.Fit.del {s : It} {c : Nat} (h : s.Fit c) {k : Ky} (hk : (s.f k).isSome = true) : (s.del k).Fit c :=
  ⟨Nat.le_trans (Nat.sub_le _ _) h.le, fun x v hx => by
    by_cases e : x = k
    · subst e
      rw [It.del_f] at hx
      cases hx
    · rw [It.del_o e] at hx
      exact h.wf x v hx, h.cnt.del hk⟩
theorem It.Fit.take : ∀ (l : List Ky) {s : It} {c : Nat} {o : Int}, s.Fit c → 1 ≤ o → o ≤ 9223372036854775807 → (s.take o l).1.Fit (c + l.length)
  | [], s, c, o, h, _, _ => h
  | k :: r, s, c, o, h, h1, h2 => by
    rw [It.take]
    split
    · exact (It.Fit.take r (h.put k h1 h2) h1 h2).more (by simp only [List.length_cons]; omega)
    · exact h.more (by omega)
theorem It.Fit.drop : ∀ (l : List Ky) {s : It} {c : Nat} {o : Int}, s.Fit c → (s.drop o l).1.Fit c
  | [], s, c, o, h => h
  | k :: r, s, c, o, h => by
    rw [It.drop]
    split
    · rename_i hk
      exact It.Fit.drop r (h.del (by rw [hk]; rfl))
    · exact It.Fit.drop r h
end Go.Proofs.YtgobbdfgjgjigaaGreatDoor.D
