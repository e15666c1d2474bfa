/-
  The law on bytes: its mathematics; what holds in memory between two records.
-/
import Derived.Test.YtelifoagnheioaaRkm
import Derived.Test.YtelifoagnheioaaRfb
import Derived.Test.YtelifoagnheioaaRla
set_option linter.unusedVariables false
set_option linter.unusedSimpArgs false
set_option maxRecDepth 100000
namespace Go.Proofs.Ytelifoagnheioaa.D
/-- The bytes of the right ones. -/
def rws (l : List Rc) : List Nat := rbs (l.filter fun r => chk r == 0)
theorem rws_next {l : List Rc} {k : Nat} {x : Rc} (h : l[k]? = some x) : rws (l.take (k + 1)) = if chk x = 0 then rws (l.take k) ++ rby x else rws (l.take k) := by
  unfold rws rbs
  rw [List.take_add_one, h, List.filter_append, List.flatMap_append]
  by_cases hc : chk x = 0
  · simp [hc]
  · simp [hc]
theorem rws_bd {l : List Rc} (hw : ∀ r ∈ l, r.wf) : (rws l).length ≤ 90 * l.length := by
  have h := rbs_bd (l := l.filter fun r => chk r == 0) (fun r hr => hw r (List.mem_filter.1 hr).1) (fun r hr => by simpa using (List.mem_filter.1 hr).2)
  have h2 := List.length_filter_le (fun r => chk r == 0) l
  unfold rws
  omega
theorem rws_all {l : List Rc} (h : errs l = 0) : rws l = rbs l := by
  unfold rws
  rw [List.filter_eq_self.2]
  intro r hr
  simpa using errs_zero h r hr
/-- How many kinds below k are there. -/
def tc (K : List Nat) : Nat → Nat
  | 0 => 0
  | k + 1 => if 0 < cnt K k then tc K k + 1 else tc K k
theorem cnt_pos {K : List Nat} {x : Nat} : 0 < cnt K x ↔ x ∈ K := by
  unfold cnt
  rw [List.countP_pos_iff]
  constructor
  · rintro ⟨y, hy, e⟩
    have : y = x := by simpa using e
    exact this ▸ hy
  · intro h
    exact ⟨x, h, by simp⟩
theorem tc_out {K : List Nat} {x : Nat} {k : Nat} (h : k ≤ x) : tc (K ++ [x]) k = tc K k := by
  induction k with
  | zero => rfl
  | succ k ih =>
    have h1 : cnt (K ++ [x]) k = cnt K k := by rw [cnt_snoc, if_neg (by omega)]
    simp only [tc, h1, ih (by omega)]
theorem tc_in {K : List Nat} {x : Nat} {k : Nat} (h : x < k) : tc (K ++ [x]) k = if x ∈ K then tc K k else tc K k + 1 := by
  induction k with
  | zero => omega
  | succ k ih =>
    by_cases e : x = k
    · subst e
      have h1 : cnt (K ++ [x]) x = cnt K x + 1 := by rw [cnt_snoc, if_pos rfl]
      have h2 := cnt_pos (K := K) (x := x)
      simp only [tc, h1, tc_out (Nat.le_refl x)]
      by_cases hx : x ∈ K
      · rw [if_pos (by omega), if_pos hx, if_pos (h2.2 hx)]
      · rw [if_pos (by omega), if_neg hx, if_neg (fun h => hx (h2.1 h))]
    · have h1 : cnt (K ++ [x]) k = cnt K k := by rw [cnt_snoc, if_neg e]
      simp only [tc, h1, ih (by omega)]
      by_cases hx : x ∈ K <;> by_cases hk : 0 < cnt K k <;> simp [hx, hk]
theorem dist_tc {K : List Nat} {m : Nat} : (∀ x ∈ K, x < m) → dist K = tc K m := by
  have key : ∀ (n : Nat) (K : List Nat), K.length = n → (∀ x ∈ K, x < m) → dist K = tc K m := by
    intro n
    induction n with
    | zero =>
      intro K h _
      obtain rfl := List.eq_nil_of_length_eq_zero h
      have : ∀ k, tc [] k = 0 := fun k => by induction k with
        | zero => rfl
        | succ k ih => simp [tc, cnt, ih]
      rw [this]; rfl
    | succ n ih =>
      intro K h hm
      have hne : K ≠ [] := by rintro rfl; simp at h
      obtain ⟨L, x, rfl⟩ : ∃ L x, K = L ++ [x] := ⟨K.dropLast, K.getLast hne, (List.dropLast_concat_getLast hne).symm⟩
      rw [dist_snoc, tc_in (hm x (by simp)), ih L (by simpa using h) (fun y hy => hm y (by simp [hy]))]
  exact key _ K rfl
theorem kds_lt {l : List Rc} : ∀ x ∈ kds l, x < 7 := by
  intro x hx
  obtain ⟨r, hr, rfl⟩ := List.mem_map.1 hx
  have h : chk r = 0 := by simpa using (List.mem_filter.1 hr).2
  have := chk_kind h
  omega
theorem tc_le (K : List Nat) (k : Nat) : tc K k ≤ k := by
  induction k with
  | zero => exact Nat.le_refl _
  | succ k ih => unfold tc; split <;> omega
end Go.Proofs.Ytelifoagnheioaa.D
namespace Go.Proofs.Ytelifoagnheioaa
open Go.RowKit

/-- The counts of the kinds. -/
def kcs (K : List Nat) : Array Value := #[.int .i64 (D.cnt K 0 : Nat), .int .i64 (D.cnt K 1 : Nat), .int .i64 (D.cnt K 2 : Nat), .int .i64 (D.cnt K 3 : Nat), .int .i64 (D.cnt K 4 : Nat), .int .i64 (D.cnt K 5 : Nat), .int .i64 (D.cnt K 6 : Nat)]
theorem kcs_at {K : List Nat} {k : Nat} (h : k < 7) : (kcs K)[k]? = some (.int .i64 (D.cnt K k : Nat)) := by
  have : k = 0 ∨ k = 1 ∨ k = 2 ∨ k = 3 ∨ k = 4 ∨ k = 5 ∨ k = 6 := by omega
  rcases this with rfl | rfl | rfl | rfl | rfl | rfl | rfl <;> rfl
theorem kcs_put {K : List Nat} {k : Nat} (h : k < 7) : (kcs K).setIfInBounds k (.int .i64 ((D.cnt K k : Nat) + 1 : Int)) = kcs (K ++ [k]) := by
  have : k = 0 ∨ k = 1 ∨ k = 2 ∨ k = 3 ∨ k = 4 ∨ k = 5 ∨ k = 6 := by omega
  rcases this with rfl | rfl | rfl | rfl | rfl | rfl | rfl <;> simp [kcs, D.cnt_snoc]
theorem own_kept {base n c : Nat} {w w' : World} {A : Option Addr} {l : List Nat} (h : Own base w A n c l) (hs : w.heap.size ≤ w'.heap.size) (hk : ∀ g, (Value.slice A n c).ownBlock = some g → w'.heap[g]? = w.heap[g]?) : Own base w' A n c l := by
  refine ⟨⟨h.row.1, ?_⟩, Nat.le_trans h.base hs⟩
  rcases h.row.2 with hn | ⟨g, cap, cur, e, hg, hh, r⟩
  · exact .inl hn
  · refine .inr ⟨g, cap, cur, e, hg, ?_, r⟩
    rw [hk g (by rw [e]; rfl)]
    exact hh
theorem ow_ne {T t : TypeId} {sz base n c g : Nat} {w : World} {A : Option Addr} {xs : List Value} {cs : Array Value} (h : Ow T sz base w A n c xs) (hg : Blk w g t cs) (hne : t ≠ T) : (Value.slice A n c).ownBlock ≠ some g := by
  rcases h.row.2 with ⟨e, _⟩ | ⟨g', cap, cur, e, _, hh, _⟩
  · rw [e]; simp [Value.ownBlock]
  · rw [e]
    intro he
    have : g' = g := by simpa [Value.ownBlock] using he
    subst this
    have h1 := hg.out
    rw [h1] at hh
    injection hh with hh
    injection hh with _ hh
    exact hne hh
theorem own_ow {T : TypeId} {sz b1 b2 n c m d : Nat} {w : World} {A B : Option Addr} {xs : List Value} {l : List Nat} (h : Ow T sz b1 w A n c xs) (k : Own b2 w B m d l) (hne : T ≠ 5) : ∀ g, (Value.slice A n c).ownBlock = some g → (Value.slice B m d).ownBlock ≠ some g := by
  intro g hg
  rcases h.row.2 with ⟨e, _⟩ | ⟨g', cap, cur, e, _, hh, _⟩
  · rw [e] at hg; simp [Value.ownBlock] at hg
  · rw [e] at hg
    have : g' = g := by simpa [Value.ownBlock] using hg
    subst this
    exact k.ne ⟨hh⟩ hne
end Go.Proofs.Ytelifoagnheioaa
