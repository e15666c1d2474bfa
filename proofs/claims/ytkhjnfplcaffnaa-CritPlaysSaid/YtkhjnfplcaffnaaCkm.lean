/-
  What a tree's keys of a prefix are; what puts and deletes leave, whatever their order. No program is spoken of.
-/
import Derived.Test.YtkhjnfplcaffnaaCke
import Derived.Test.YtkhjnfplcaffnaaCde
set_option linter.unusedVariables false
set_option linter.unusedSimpArgs false
set_option maxRecDepth 100000
namespace Go.Proofs.Ytkhjnfplcaffnaa
theorem fk_hd (o : Option Tk) (t : Tk) (h : o = some t) : fk o = t.hd.1 := by subst h; rfl
/-- A tree's keys of a prefix are those of its keys that are of it. -/
theorem kyo_eq {w : World} {g : Nat} {o : Option Tk} (h : TR w g o) (q : D.Px) : kyo q o = ((Cr.Tr.lso o).filter (fun e => D.has q.x q.d e.1)).map (·.1) := by
  unfold kyo
  by_cases hd : 0 ≤ q.d ∧ q.d ≤ 5
  · have hp : ∀ x, D.has q.x q.d x = decide (8 * D.ends q.d ≤ Cr.par x q.x) := fun x => D.has_par hd.1 hd.2
    have hn := D.ends_le q.d
    cases o with
    | none => simp [Cr.Tr.lso, subo]
    | some t =>
      have hw := h.wf t rfl
      rw [hp]
      have e : fk (subo q.x (8 * D.ends q.d) (some t)) = (t.sub q.x (8 * D.ends q.d)).hd.1 := rfl
      rw [e]
      have hf : (Cr.Tr.lso (some t)).filter (fun e => D.has q.x q.d e.1) = t.ls.filter (fun e => decide (8 * D.ends q.d ≤ Cr.par e.1 q.x)) := by
        show t.ls.filter _ = _
        congr 1
        funext e
        exact hp e.1
      rw [hf]
      by_cases c : 8 * D.ends q.d ≤ Cr.par (t.sub q.x (8 * D.ends q.d)).hd.1 q.x
      · rw [decide_eq_true c, if_pos rfl, Cr.Tr.pre_yes (by omega) hw c]; rfl
      · rw [decide_eq_false c, if_neg (by decide), Cr.Tr.pre_no (by omega) hw c]; rfl
  · have hp : ∀ x, D.has q.x q.d x = false := fun x => by
      unfold D.has
      simp only [Bool.and_eq_false_iff, decide_eq_false_iff_not]
      omega
    simp [hp]
/-- Puts of one thing by some keys. -/
def pts (ks : List D.Ky) (v : Int) (l : List Lf) : List Lf := ks.foldl (fun l k => Cr.put k v l) l
theorem pts_app (ks : List D.Ky) (k : D.Ky) (v : Int) (l : List Lf) : pts (ks ++ [k]) v l = Cr.put k v (pts ks v l) := by simp [pts]
theorem pts_up (v : Int) : ∀ (ks : List D.Ky) (l : List Lf), Cr.Up l → Cr.Up (pts ks v l)
  | [], l, h => h
  | k :: ks, l, h => pts_up v ks _ (Cr.put_up h)
theorem pts_mem (v : Int) : ∀ (ks : List D.Ky) (l : List Lf), Cr.Up l → ∀ x, x ∈ pts ks v l ↔ (x.1 ∈ ks ∧ x.2 = v) ∨ (x ∈ l ∧ x.1 ∉ ks)
  | [], l, h, x => by simp [pts]
  | k :: ks, l, h, x => by
    show x ∈ pts ks v (Cr.put k v l) ↔ _
    rw [pts_mem v ks _ (Cr.put_up h), Cr.put_mem h]
    have hx : x = (k, v) ↔ x.1 = k ∧ x.2 = v := by
      constructor
      · rintro rfl; exact ⟨rfl, rfl⟩
      · rintro ⟨rfl, rfl⟩; rfl
    rw [hx]
    simp only [List.mem_cons, not_or]
    by_cases a : x.1 ∈ ks <;> by_cases b : x.1 = k <;> by_cases c : x.2 = v <;> simp [a, b, c] <;> exact Classical.em _
theorem pts_len (v : Int) : ∀ (ks : List D.Ky) (l : List Lf), Cr.Up l → (pts ks v l).length ≤ l.length + ks.length
  | [], l, h => Nat.le_refl _
  | k :: ks, l, h => by
    refine Nat.le_trans (pts_len v ks _ (Cr.put_up h)) ?_
    have : (Cr.put k v l).length ≤ l.length + 1 := by
      cases hc : Cr.has k l
      · rw [Cr.put_new h hc]; exact Nat.le_refl _
      · rw [Cr.put_old h hc, List.length_map]; omega
    simp only [List.length_cons]; omega
/-- Some keys taken away but those that are to stay. -/
def dps (stay : List D.Ky) (ks : List D.Ky) (l : List Lf) : List Lf := ks.foldl (fun l k => if k ∈ stay then l else Cr.del k l) l
theorem dps_app (s ks : List D.Ky) (k : D.Ky) (l : List Lf) : dps s (ks ++ [k]) l = if k ∈ s then dps s ks l else Cr.del k (dps s ks l) := by simp [dps]
theorem dps_up (s : List D.Ky) : ∀ (ks : List D.Ky) (l : List Lf), Cr.Up l → Cr.Up (dps s ks l)
  | [], l, h => h
  | k :: ks, l, h => by
    show Cr.Up (dps s ks (if k ∈ s then l else Cr.del k l))
    split
    · exact dps_up s ks l h
    · exact dps_up s ks _ (Cr.del_up h)
theorem dps_mem (s : List D.Ky) : ∀ (ks : List D.Ky) (l : List Lf) (x : Lf), x ∈ dps s ks l ↔ x ∈ l ∧ (x.1 ∈ ks → x.1 ∈ s)
  | [], l, x => by simp [dps]
  | k :: ks, l, x => by
    show x ∈ dps s ks (if k ∈ s then l else Cr.del k l) ↔ _
    rw [dps_mem s ks]
    by_cases a : k ∈ s
    · rw [if_pos a]
      simp only [List.mem_cons]
      constructor
      · rintro ⟨h1, h2⟩
        refine ⟨h1, ?_⟩
        rintro (rfl | h)
        · exact a
        · exact h2 h
      · rintro ⟨h1, h2⟩; exact ⟨h1, fun h => h2 (.inr h)⟩
    · rw [if_neg a, Cr.del_mem]
      simp only [List.mem_cons]
      constructor
      · rintro ⟨⟨h1, h3⟩, h2⟩
        refine ⟨h1, ?_⟩
        rintro (h | h)
        · exact absurd h h3
        · exact h2 h
      · rintro ⟨h1, h2⟩
        exact ⟨⟨h1, fun e => a (by rw [← e]; exact h2 (.inl e))⟩, fun h => h2 (.inr h)⟩
/-- Whichever way keys are put, and whatever else was there in between, the same is held. -/
theorem order_eq (keys more rot : List D.Ky) (hr : ∀ k, k ∈ rot ↔ k ∈ keys) : dps keys more (pts rot 0 (pts more 1 [])) = pts keys 0 [] := by
  have u0 : Cr.Up ([] : List Lf) := List.Pairwise.nil
  have u1 := pts_up 1 more [] u0
  refine Cr.Up.eq (dps_up _ _ _ (pts_up _ _ _ u1)) (pts_up _ _ _ u0) fun x => ?_
  rw [dps_mem, pts_mem _ _ _ u1, pts_mem _ _ _ u0, pts_mem _ _ _ u0, hr]
  simp only [List.not_mem_nil, false_and, or_false]
  constructor
  · rintro ⟨h | ⟨⟨h1, _⟩, h2⟩, h3⟩
    · exact h
    · exact absurd (h3 h1) h2
  · intro h
    exact ⟨.inl h, fun _ => h.1⟩
/-- A row of keys, each turned on by as many. -/
def rot (ks : List D.Ky) (m : Nat) (j : Nat) : List D.Ky := (List.range j).map fun i => ks.getD ((i + m) % ks.length) D.zK
theorem rot_succ (ks : List D.Ky) (m j : Nat) : rot ks m (j + 1) = rot ks m j ++ [ks.getD ((j + m) % ks.length) D.zK] := by simp [rot, List.range_succ]
theorem rot_mem (ks : List D.Ky) (m : Nat) (k : D.Ky) : k ∈ rot ks m ks.length ↔ k ∈ ks := by
  unfold rot
  simp only [List.mem_map, List.mem_range]
  constructor
  · rintro ⟨i, hi, rfl⟩
    have hlt : (i + m) % ks.length < ks.length := Nat.mod_lt _ (by omega)
    rw [List.getD_eq_getElem?_getD, List.getElem?_eq_getElem hlt]
    exact List.getElem_mem hlt
  · intro h
    obtain ⟨i, hi, rfl⟩ := List.getElem_of_mem h
    have hn : 0 < ks.length := by omega
    refine ⟨(i + (ks.length - m % ks.length)) % ks.length, Nat.mod_lt _ hn, ?_⟩
    have hm := Nat.mod_lt m hn
    have : ((i + (ks.length - m % ks.length)) % ks.length + m) % ks.length = i := by
      rw [Nat.add_mod, Nat.mod_mod, ← Nat.add_mod]
      have e : i + (ks.length - m % ks.length) + m = i + ks.length * (1 + m / ks.length) := by
        have := Nat.div_add_mod m ks.length
        have e2 : ks.length * (1 + m / ks.length) = ks.length + ks.length * (m / ks.length) := by rw [Nat.mul_add, Nat.mul_one]
        rw [e2]; omega
      rw [e, Nat.add_mul_mod_self_left, Nat.mod_eq_of_lt hi]
    rw [this, List.getD_eq_getElem?_getD, List.getElem?_eq_getElem hi]
    rfl
end Go.Proofs.Ytkhjnfplcaffnaa
