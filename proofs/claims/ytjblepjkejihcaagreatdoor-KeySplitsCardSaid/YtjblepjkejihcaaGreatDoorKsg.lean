/-
  What the groups of a list of keys add up to.
-/
import Derived.Test.YtjblepjkejihcaaGreatDoorKsw
set_option linter.unusedVariables false
set_option linter.unusedSimpArgs false
namespace Go.Proofs.YtjblepjkejihcaaGreatDoor.D
theorem px3_eq {x y : Ky} : px3 x = px3 y ↔ upto x 3 = upto y 3 := by
  unfold px3
  constructor
  · intro h; injection h
  · intro h; rw [h]
theorem upto_three (x : Ky) : upto x 3 = mkK x.k x.p x.a Nm.D.zero zero := by
  unfold upto
  simp
theorem upto_twice (x : Ky) : upto (upto x 3) 3 = upto x 3 := by
  rw [upto_three, upto_three]
  unfold mkK
  congr 1
  have h1 : (mkK x.k x.p x.a Nm.D.zero zero).k = x.k % 256 := by simp [Ky.k, mkK]
  have h2 : (mkK x.k x.p x.a Nm.D.zero zero).p = x.p % 256 := by simp [Ky.p, mkK]
  have h3 : (mkK x.k x.p x.a Nm.D.zero zero).a = x.a % 256 := by simp [Ky.a, mkK]
  unfold mkK at h1 h2 h3
  rw [h1, h2, h3]
  simp
open Classical in
theorem has_px3 (x y : Ky) : has (px3 x).x (px3 x).d y = decide (px3 y = px3 x) := by
  unfold has
  rw [decide_eq_decide, px3_eq]
  show (0 ≤ (3 : Int) ∧ (3 : Int) ≤ 5 ∧ upto (upto x 3) 3 = upto y 3) ↔ _
  rw [upto_twice]
  constructor
  · rintro ⟨_, _, h⟩; exact h.symm
  · intro h; exact ⟨by omega, by omega, h.symm⟩
/-- Is a key right, and of the same group as another? -/
noncomputable def same3 (x y : Ky) : Bool := kright y && has (px3 x).x (px3 x).d y
/-- How many of the first ones. -/
noncomputable def upc (l : List Ky) (q : Ky → Bool) (j : Nat) : Nat := ((l.take j).filter q).length
theorem upc_zero (l : List Ky) (q : Ky → Bool) : upc l q 0 = 0 := by simp [upc]
theorem take_next {l : List Ky} {i : Nat} {x : Ky} (h : l[i]? = some x) : l.take (i + 1) = l.take i ++ [x] := by
  obtain ⟨h1, h2⟩ := List.getElem?_eq_some_iff.1 h
  rw [List.take_succ_eq_append_getElem h1, h2]
theorem upc_yes {l : List Ky} {q : Ky → Bool} {j : Nat} {y : Ky} (h : l[j]? = some y) (hq : q y = true) : upc l q (j + 1) = upc l q j + 1 := by
  unfold upc
  rw [take_next h, List.filter_append]
  simp [hq]
theorem upc_no {l : List Ky} {q : Ky → Bool} {j : Nat} {y : Ky} (h : l[j]? = some y) (hq : q y = false) : upc l q (j + 1) = upc l q j := by
  unfold upc
  rw [take_next h, List.filter_append]
  simp [hq]
theorem upc_le (l : List Ky) (q : Ky → Bool) (j : Nat) : upc l q j ≤ j := Nat.le_trans (List.length_filter_le _ _) (by simp; omega)
theorem upc_end {l : List Ky} {q : Ky → Bool} {n : Nat} (h : l.length ≤ n) : upc l q n = (l.filter q).length := by
  unfold upc
  rw [List.take_of_length_le h]
/-- The one that is met is the next of the list. -/
theorem upc_at {l : List Ky} {q : Ky → Bool} {j : Nat} {y : Ky} (h : l[j]? = some y) (hq : q y = true) : (l.filter q)[upc l q j]? = some y := by
  obtain ⟨h1, h2⟩ := List.getElem?_eq_some_iff.1 h
  have e : l = l.take j ++ y :: l.drop (j + 1) := by
    conv => lhs; rw [← List.take_append_drop j l, List.drop_eq_getElem_cons h1, h2]
  have e2 : l.filter q = (l.take j).filter q ++ y :: (l.drop (j + 1)).filter q := by
    conv => lhs; rw [e]
    rw [List.filter_append, List.filter_cons, if_pos hq]
  rw [e2]
  unfold upc
  rw [List.getElem?_append_right (Nat.le_refl _), Nat.sub_self]
  rfl
open Classical in
theorem filter_same3 (l : List Ky) (x : Ky) : memg (grp px3 (l.filter kright)) (px3 x) = l.filter (same3 x) := by
  rw [grp_mem, List.filter_filter]
  congr 1
  funext y
  unfold same3
  rw [has_px3, Bool.and_comm]
open Classical in
/-- Is it the first of its group? -/
theorem first_iff (l : List Ky) (x : Ky) (i : Nat) : px3 x ∈ (grp px3 ((l.take i).filter kright)).map Prod.fst ↔ upc l (same3 x) i ≠ 0 := by
  rw [grp_fst]
  unfold upc
  constructor
  · rintro ⟨k, hk, e⟩ h0
    have hk' := List.mem_filter.1 hk
    have : k ∈ (l.take i).filter (same3 x) := List.mem_filter.2 ⟨hk'.1, by unfold same3; rw [has_px3, hk'.2]; simp [e]⟩
    rw [List.length_eq_zero_iff.1 h0] at this
    cases this
  · intro h
    obtain ⟨k, hk⟩ := List.exists_mem_of_length_pos (Nat.pos_of_ne_zero h)
    have hk' := List.mem_filter.1 hk
    have h2 := hk'.2
    unfold same3 at h2
    rw [has_px3] at h2
    simp only [Bool.and_eq_true, decide_eq_true_eq] at h2
    exact ⟨k, List.mem_filter.2 ⟨hk'.1, h2.1⟩, h2.2⟩
theorem fst_old {G : List (Px × List Ky)} {p : Px} (k : Ky) (h : p ∈ G.map Prod.fst) : (addg G p k).map Prod.fst = G.map Prod.fst := by
  induction G with
  | nil => simp at h
  | cons g G ih =>
    simp only [addg]
    split
    · rfl
    · rename_i e
      simp only [List.map_cons, List.mem_cons] at h ⊢
      rw [ih (h.resolve_left fun e' => e e'.symm)]
theorem fst_new {G : List (Px × List Ky)} {p : Px} (k : Ky) (h : ¬ p ∈ G.map Prod.fst) : (addg G p k).map Prod.fst = G.map Prod.fst ++ [p] := by
  rw [addg_new k fun g hg e => h (List.mem_map.2 ⟨g, hg, e⟩)]
  simp
/-- How many groups the first ones make, and how many keys the map has at these. -/
noncomputable def gcount (l : List Ky) (i : Nat) : Nat := (grp px3 ((l.take i).filter kright)).length
noncomputable def gsum (l : List Ky) (i : Nat) : Nat := (((grp px3 ((l.take i).filter kright)).map Prod.fst).map fun p => (memg (grp px3 (l.filter kright)) p).length).sum
theorem gcount_fst (l : List Ky) (i : Nat) : gcount l i = ((grp px3 ((l.take i).filter kright)).map Prod.fst).length := by simp [gcount]
theorem g_wrong {l : List Ky} {i : Nat} {x : Ky} (h : l[i]? = some x) (hr : kright x = false) : gcount l (i + 1) = gcount l i ∧ gsum l (i + 1) = gsum l i := by
  unfold gcount gsum
  rw [kright_next h, hr]
  simp
theorem g_old {l : List Ky} {i : Nat} {x : Ky} (h : l[i]? = some x) (hr : kright x = true) (hf : upc l (same3 x) i ≠ 0) : gcount l (i + 1) = gcount l i ∧ gsum l (i + 1) = gsum l i := by
  have hm := (first_iff l x i).2 hf
  rw [gcount_fst, gcount_fst]
  unfold gsum
  rw [kright_next h, hr, if_pos rfl, grp_snoc, fst_old _ hm]
  exact ⟨rfl, rfl⟩
theorem g_new {l : List Ky} {i : Nat} {x : Ky} (h : l[i]? = some x) (hr : kright x = true) (hf : upc l (same3 x) i = 0) : gcount l (i + 1) = gcount l i + 1 ∧ gsum l (i + 1) = gsum l i + (l.filter (same3 x)).length := by
  have hm : ¬ px3 x ∈ (grp px3 ((l.take i).filter kright)).map Prod.fst := fun h => (first_iff l x i).1 h hf
  rw [gcount_fst, gcount_fst]
  unfold gsum
  rw [kright_next h, hr, if_pos rfl, grp_snoc, fst_new _ hm]
  simp [filter_same3]
theorem g_zero (l : List Ky) : gcount l 0 = 0 ∧ gsum l 0 = 0 := by simp [gcount, gsum, grp]
theorem sum_len_addg (G : List (Px × List Ky)) (p : Px) (k : Ky) : ((addg G p k).map fun g => g.2.length).sum = (G.map fun g => g.2.length).sum + 1 := by
  induction G with
  | nil => simp [addg]
  | cons g G ih =>
    simp only [addg]
    split
    · simp; omega
    · simp only [List.map_cons, List.sum_cons, ih]; omega
theorem sum_grp (pre : Ky → Px) (L : List Ky) : ((grp pre L).map fun g => g.2.length).sum = L.length :=
  rev_ind (P := fun L => ((grp pre L).map fun g => g.2.length).sum = L.length) (by simp [grp]) (fun L k ih => by rw [grp_snoc, sum_len_addg, ih]; simp) L
theorem memg_of {G : List (Px × List Ky)} (hn : (G.map Prod.fst).Nodup) {g : Px × List Ky} (h : g ∈ G) : memg G g.1 = g.2 := by
  obtain ⟨j, hj, e⟩ := List.mem_iff_getElem.1 h
  exact memg_old hn (j := j) (m := g.2) (by rw [List.getElem?_eq_getElem hj, e])
theorem g_end {l : List Ky} {n : Nat} (h : l.length ≤ n) : gcount l n = (grp px3 (l.filter kright)).length ∧ gsum l n = (l.filter kright).length := by
  unfold gcount gsum
  rw [List.take_of_length_le h]
  refine ⟨rfl, ?_⟩
  rw [← sum_grp px3 (l.filter kright), List.map_map]
  congr 1
  refine List.map_congr_left fun g hg => ?_
  show (memg (grp px3 (l.filter kright)) g.1).length = g.2.length
  rw [memg_of (grp_nodup _ _) hg]
theorem gcount_le (l : List Ky) : ∀ i, i ≤ l.length → gcount l i ≤ i ∧ gsum l i ≤ i * l.length := by
  intro i
  induction i with
  | zero => intro _; have := g_zero l; omega
  | succ i ih =>
    intro hi
    have := ih (by omega)
    have hx : l[i]? = some l[i] := List.getElem?_eq_getElem (by omega)
    have hm : (i + 1) * l.length = i * l.length + l.length := by rw [Nat.add_mul, Nat.one_mul]
    cases hr : kright l[i]
    · have := g_wrong hx hr; omega
    · by_cases hf : upc l (same3 l[i]) i = 0
      · have := g_new hx hr hf
        have hl : (l.filter (same3 l[i])).length ≤ l.length := List.length_filter_le _ _
        omega
      · have := g_old hx hr hf; omega
end Go.Proofs.YtjblepjkejihcaaGreatDoor.D
