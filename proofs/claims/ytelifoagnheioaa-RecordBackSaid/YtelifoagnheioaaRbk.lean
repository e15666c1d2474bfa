/-
  Records as bytes are read as they were, all of them; without the last byte it is the end. No program is spoken of.
-/
import Derived.Test.YtelifoagnheioaaRlb
set_option linter.unusedVariables false
set_option linter.unusedSimpArgs false
set_option maxRecDepth 100000
namespace Go.Proofs.Ytelifoagnheioaa
namespace D
instance : Inhabited Rc := ⟨zRc⟩
theorem rbs_split (l : List Rc) (k : Nat) : rbs l = rbs (l.take k) ++ rbs (l.drop k) := by
  unfold rbs
  rw [← List.flatMap_append, List.take_append_drop]
theorem rbs_drop {l : List Rc} {k : Nat} {r : Rc} (h : l[k]? = some r) : (rbs l).drop (rbs (l.take k)).length = rby r ++ rbs (l.drop (k + 1)) := by
  obtain ⟨hk, e⟩ := List.getElem?_eq_some_iff.1 h
  rw [rbs_split l k, List.drop_left, List.drop_eq_getElem_cons hk, e]
  simp [rbs]
theorem rbs_take_next {l : List Rc} {k : Nat} {r : Rc} (h : l[k]? = some r) : (rbs (l.take (k + 1))).length = (rbs (l.take k)).length + (rby r).length := by
  rw [rbs_next h, List.length_append]
theorem rbs_lt {l : List Rc} (hw : ∀ r ∈ l, r.wf) (hc : ∀ r ∈ l, chk r = 0) : ∀ b ∈ rbs l, b < 256 := by
  intro b hb
  obtain ⟨r, hr, hb⟩ := List.mem_flatMap.1 hb
  have h1 := hw r hr
  have h2 := hc r hr
  rw [rby, List.mem_cons] at hb
  rcases hb with rfl | hb
  · exact h1.k
  · have hk := chk_kind h2
    have hm := sm_lt r.v
    have ha := sm_lt r.a
    have ht : ∀ b ∈ rtxt_ r.t, b < 256 := by
      intro b hb
      rw [rtxt_] at hb
      rcases List.mem_append.1 hb with hb | hb
      · exact sm_lt _ b hb
      · exact ns_lt _ b hb
    rcases hk with e | e | e | e | e | e
    · simp [rtl, e] at hb; have := h1.u; omega
    · simp [rtl, e] at hb; have := h1.m; omega
    · simp [rtl, e] at hb
    · simp [rtl, e] at hb
      rcases hb with rfl | rfl | hb
      · exact h1.p
      · exact h1.s
      · exact ha b hb
    · simp [rtl, e] at hb
      rcases hb with rfl | hb | hb
      · split <;> omega
      · exact hm b hb
      · exact ht b hb
    · simp [rtl, e] at hb
      rcases hb with rfl | rfl | hb | hb
      · exact h1.s
      · exact h1.u
      · exact hm b hb
      · exact ht b hb
theorem path_back {l : List Rc} (hw : ∀ r ∈ l, r.wf) (hc : ∀ r ∈ l, chk r = 0) {L : List Rc} {n : Nat} (h : Path (rbs l) L n) : ∃ k, k ≤ l.length ∧ L = l.take k ∧ n = (rbs (l.take k)).length := by
  induction h with
  | nil => exact ⟨0, Nat.zero_le _, by simp, by simp [rbs]⟩
  | @snoc L n p hn he ih =>
    obtain ⟨k, hk, rfl, rfl⟩ := ih
    have hkl : k < l.length := by
      rcases Nat.lt_or_ge k l.length with h | h
      · exact h
      · rw [List.take_of_length_le h] at hn
        omega
    have hx : l[k]? = some l[k] := List.getElem?_eq_getElem hkl
    have hm := List.getElem_mem hkl
    have hr := rdr_back (hw _ hm) (hc _ hm) (rbs_drop hx)
    refine ⟨k + 1, hkl, ?_, ?_⟩
    · rw [hr, List.take_add_one, hx]; rfl
    · rw [hr, rbs_take_next hx]
theorem all_back {l : List Rc} (hw : ∀ r ∈ l, r.wf) (hc : ∀ r ∈ l, chk r = 0) {L : List Rc} {e : Nat} (h : AllC (rbs l) L e) : L = l ∧ e = 0 := by
  cases h with
  | fine p hn =>
    obtain ⟨k, hk, rfl, rfl⟩ := path_back hw hc p
    refine ⟨?_, rfl⟩
    rcases Nat.lt_or_ge k l.length with h | h
    · exfalso
      have hx : l[k]? = some l[k] := List.getElem?_eq_getElem h
      have h1 := congrArg List.length (rbs_split l (k + 1))
      rw [List.length_append, rbs_take_next hx] at h1
      have := rby_pos l[k]
      omega
    · exact List.take_of_length_le h
  | wrong p hn he =>
    obtain ⟨k, hk, rfl, rfl⟩ := path_back hw hc p
    have hkl : k < l.length := by
      rcases Nat.lt_or_ge k l.length with h | h
      · exact h
      · rw [List.take_of_length_le h] at hn
        omega
    have hm := List.getElem_mem hkl
    have hr := rdr_back (hw _ hm) (hc _ hm) (rbs_drop (List.getElem?_eq_getElem hkl))
    rw [hr] at he
    exact absurd rfl he
theorem drop_dropLast (b : List Nat) (n : Nat) : b.dropLast.drop n = (b.drop n).dropLast := by
  rw [List.dropLast_eq_take, List.dropLast_eq_take, List.drop_take, List.length_drop]
  congr 1
  omega
theorem rby_two {r : Rc} (h : chk r = 0) (h3 : r.k ≠ 3) : 2 ≤ (rby r).length := by
  rw [rby, List.length_cons]
  have hk := chk_kind h
  rcases hk with e | e | e | e | e | e
  · simp [rtl, e]
  · simp [rtl, e]
  · exact absurd e h3
  · simp [rtl, e]
  · simp [rtl, e]
  · simp [rtl, e]
/-- Without the last byte. -/
theorem all_cut {l : List Rc} {x : Rc} (hw : ∀ r ∈ l ++ [x], r.wf) (hc : ∀ r ∈ l ++ [x], chk r = 0) (h3 : x.k ≠ 3) {L : List Rc} {e : Nat} (h : AllC (rbs (l ++ [x])).dropLast L e) : L = [] ∧ e = 4 := by
  have hx2 := rby_two (hc x (by simp)) h3
  have hsplit : rbs (l ++ [x]) = rbs l ++ rby x := by simp [rbs]
  have hlen : (rbs (l ++ [x])).dropLast.length = (rbs l).length + (rby x).length - 1 := by rw [List.length_dropLast, hsplit, List.length_append]
  have hd : ∀ k, k < l.length → (rbs (l ++ [x])).dropLast.drop (rbs (l.take k)).length = (rby (l[k]!) ++ rbs (l.drop (k + 1))) ++ (rby x).dropLast := by
    intro k hk
    have e1 : l[k]? = some l[k]! := by rw [List.getElem?_eq_getElem hk]; simp [hk]
    have hne : rby x ≠ [] := by intro h0; rw [h0] at hx2; simp at hx2
    rw [hsplit, List.dropLast_append_of_ne_nil hne, List.drop_append_of_le_length (by
      have h1 := congrArg List.length (rbs_split l k)
      rw [List.length_append] at h1
      omega), rbs_drop e1]
  have hdl : (rbs (l ++ [x])).dropLast.drop (rbs l).length = (rby x).dropLast := by
    rw [drop_dropLast, hsplit, List.drop_left]
  have key : ∀ {L : List Rc} {n : Nat}, Path (rbs (l ++ [x])).dropLast L n → ∃ k, k ≤ l.length ∧ n = (rbs (l.take k)).length := by
    intro L n p
    induction p with
    | nil => exact ⟨0, Nat.zero_le _, by simp [rbs]⟩
    | @snoc L n p hn he ih =>
      obtain ⟨k, hk, rfl⟩ := ih
      rcases Nat.lt_or_ge k l.length with h | h
      · have e1 : l[k]? = some l[k]! := by rw [List.getElem?_eq_getElem h]; simp [h]
        have hm : l[k]! ∈ l ++ [x] := List.mem_append_left _ (List.mem_of_getElem? e1)
        have hr := rdr_back (hw _ hm) (hc _ hm) (by rw [hd k h, List.append_assoc])
        refine ⟨k + 1, h, ?_⟩
        rw [hr, rbs_take_next e1]
      · exfalso
        have e2 : l.take k = l := List.take_of_length_le h
        rw [e2] at he
        have := rdr_cut (hw x (by simp)) (hc x (by simp)) h3 hdl
        omega
  cases h with
  | fine p hn =>
    exfalso
    obtain ⟨k, hk, rfl⟩ := key p
    have h1 := congrArg List.length (rbs_split l k)
    rw [List.length_append] at h1
    omega
  | wrong p hn he =>
    obtain ⟨k, hk, rfl⟩ := key p
    refine ⟨rfl, ?_⟩
    rcases Nat.lt_or_ge k l.length with h | h
    · exfalso
      have e1 : l[k]? = some l[k]! := by rw [List.getElem?_eq_getElem h]; simp [h]
      have hm : l[k]! ∈ l ++ [x] := List.mem_append_left _ (List.mem_of_getElem? e1)
      have hr := rdr_back (hw _ hm) (hc _ hm) (by rw [hd k h, List.append_assoc])
      rw [hr] at he
      exact he rfl
    · have e2 : l.take k = l := List.take_of_length_le h
      rw [e2]
      exact rdr_cut (hw x (by simp)) (hc x (by simp)) h3 hdl
end D
end Go.Proofs.Ytelifoagnheioaa
