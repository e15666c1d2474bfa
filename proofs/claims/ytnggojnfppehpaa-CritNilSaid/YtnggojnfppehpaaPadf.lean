/-
  The document's pad and front.
-/
import Derived.Test.YtnggojnfppehpaaAExt
import Derived.Test.YtnggojnfppehpaaStep
import Derived.Deep.DrawnRows
set_option linter.unusedVariables false
set_option linter.unusedSimpArgs false
namespace Go.Proofs.Ytnggojnfppehpaa
open Go.RowKit
attribute [local go_sem ↓] Go.wp_at_zero Go.wp_at_succ

def pk (l : List Nat) (k n : Nat) : Array Value := (bys (D.padn (l.take k) n)).toArray
theorem pk_size (l : List Nat) (k n : Nat) : (pk l k n).size = n := by simp [pk, bys_len, D.padn_len]
theorem padn_get (l : List Nat) (n j : Nat) : (D.padn l n)[j]? = if j < n then some ((l[j]?).getD 0) else none := by
  unfold D.padn
  rw [List.getElem?_take]
  by_cases hj : j < n
  · rw [if_pos hj, if_pos hj]
    by_cases hl : j < l.length
    · rw [List.getElem?_append_left hl, List.getElem?_eq_getElem hl]; rfl
    · rw [List.getElem?_append_right (by omega), List.getElem?_eq_none (l := l) (by omega), List.getElem?_replicate, if_pos (by omega)]; rfl
  · rw [if_neg hj, if_neg hj]
theorem padn_next {l : List Nat} {k b n : Nat} (hb : l[k]? = some b) (hk : k < n) : D.padn (l.take (k + 1)) n = (D.padn (l.take k) n).set k b := by
  apply List.ext_getElem?
  intro j
  rw [List.getElem?_set, D.padn_len, padn_get, padn_get, List.getElem?_take, List.getElem?_take]
  by_cases e : k = j
  · subst e
    rw [if_pos hk, if_pos (by omega), hb, if_pos rfl, if_pos hk]; rfl
  · rw [if_neg e]
    by_cases h1 : j < k
    · rw [if_pos (show j < k + 1 by omega), if_pos h1]
    · rw [if_neg (show ¬ j < k + 1 by omega), if_neg h1]
theorem pk_next {l : List Nat} {k b n : Nat} (hb : l[k]? = some b) (hk : k < n) : (pk l k n).setIfInBounds k (.int .u8 b) = pk l (k + 1) n := by
  rw [pk, pk, padn_next hb hk, bys, bys, List.setIfInBounds_toArray, List.map_set]
theorem pk_end {l : List Nat} {k n : Nat} (h : k = l.length ∨ n ≤ k) (hk : k ≤ l.length) : pk l k n = (bys (D.padn l n)).toArray := by
  rw [pk]
  congr 2
  rcases h with rfl | h
  · rw [List.take_of_length_le (Nat.le_refl _)]
  · unfold D.padn
    rw [List.take_append_of_le_length (by simp; omega), List.take_append_of_le_length (by omega), List.take_take, Nat.min_eq_left h]
theorem pk_first (l : List Nat) (n : Nat) : pk l 0 n = pk [] 0 n := rfl
end Go.Proofs.Ytnggojnfppehpaa
