/-
  A drawn region walked by hand: the steps.
  The document's pad and front.
-/
import Derived.Test.YtkhjnfplcaffnaaGb
import Derived.Deep.QuietTactic
import Derived.BigQuiet
import Derived.IntWalk
import Derived.Laws.BytesString
import Derived.Lib.BufferRead
import Derived.Deep.RegionHeld3
import Derived.Test.YtkhjnfplcaffnaaAExt
import Derived.Deep.DrawnRows
set_option linter.unusedVariables false
set_option linter.unusedSimpArgs false
namespace Go.Proofs.Ytkhjnfplcaffnaa
open Go.RowKit
section
variable {P : Program} {ops : Array Oper} {Q : Exit → Act → World → Prop} {md : Region.Mode} {S : World → Prop}
/-- Number i only computes, or reads what S tells. -/
theorem takeS (i : Nat) (d : Option Tmp) (v : Value) {fuel : Nat} {listed : Array Bool} {a : Act} {w : World} (hd : (ops[i]?).map (·.dst) = some d)
    (hs : Region.noSelect ops = true) (hf : Region.free md ops listed i = true) (hr : (Region.ready md ops listed).contains i = true)
    (hQ : ∀ c a w, Q (.panic c) (a.put d v) w → Q (.panic c) a w) (hw : (ops[i]?).map (fun o => Region.wanted o (yielded ops a.tmps)) = some true)
    (hy : ∀ o, ops[i]? = some o → ∀ w, S w → (execOp a.eval o).run P w = .ok (.value v) w) (hS : S w)
    (h : wpAnyH P md ops Q S fuel (listed.setIfInBounds i true) (a.put d v) w) : wpAnyH P md ops Q S (fuel + 1) listed a w := by
  cases ho : ops[i]? with
  | none => rw [ho] at hd; cases hd
  | some o =>
    rw [ho] at hd hw
    simp only [Option.map_some, Option.some.injEq] at hd hw
    subst hd
    exact wpAnyH_take ho hs hf hr hQ (.inl ⟨hw, fun w hS => hy o ho w hS⟩) hS h
/-- Number i is the only one that may come up. -/
theorem nextS (i : Nat) {fuel : Nat} {listed : Array Bool} {a : Act} {w : World} (hr : Region.ready md ops listed = [i])
    (hw : (ops[i]?).map (fun o => Region.wanted o (yielded ops a.tmps)) = some true)
    (h : ∀ o, ops[i]? = some o → ∀ K : Act → World → Prop, Shut (∀ a w, S w → (S w → wpAnyH P md ops Q S fuel (listed.setIfInBounds i true) a w) → K a w) → Oper.wp P o a w K Q) : wpAnyH P md ops Q S (fuel + 1) listed a w := by
  cases ho : ops[i]? with
  | none => rw [ho] at hw; cases hw
  | some o =>
    rw [ho] at hw
    simp only [Option.map_some, Option.some.injEq] at hw
    refine wpAnyH_ready hr (by simp) (AllReadyH.cons ho (fun K hK => ?_) AllReadyH.nil)
    rw [if_pos hw]
    exact h o ho K hK
/-- Two may come up. -/
theorem forkS (i j : Nat) {fuel : Nat} {listed : Array Bool} {a : Act} {w : World} (hr : Region.ready md ops listed = [i, j])
    (hwi : (ops[i]?).map (fun o => Region.wanted o (yielded ops a.tmps)) = some true) (hwj : (ops[j]?).map (fun o => Region.wanted o (yielded ops a.tmps)) = some true)
    (hi : ∀ o, ops[i]? = some o → ∀ K : Act → World → Prop, Shut (∀ a w, S w → (S w → wpAnyH P md ops Q S fuel (listed.setIfInBounds i true) a w) → K a w) → Oper.wp P o a w K Q)
    (hj : ∀ o, ops[j]? = some o → ∀ K : Act → World → Prop, Shut (∀ a w, S w → (S w → wpAnyH P md ops Q S fuel (listed.setIfInBounds j true) a w) → K a w) → Oper.wp P o a w K Q) : wpAnyH P md ops Q S (fuel + 1) listed a w := by
  cases ho : ops[i]? with
  | none => rw [ho] at hwi; cases hwi
  | some o =>
    cases hp : ops[j]? with
    | none => rw [hp] at hwj; cases hwj
    | some p =>
      rw [ho] at hwi
      rw [hp] at hwj
      simp only [Option.map_some, Option.some.injEq] at hwi hwj
      refine wpAnyH_ready hr (by simp) (AllReadyH.cons ho (fun K hK => ?_) (AllReadyH.cons hp (fun K hK => ?_) AllReadyH.nil))
      · rw [if_pos hwi]
        exact hi o ho K hK
      · rw [if_pos hwj]
        exact hj p hp K hK
end
end Go.Proofs.Ytkhjnfplcaffnaa
set_option linter.unusedVariables false
set_option linter.unusedSimpArgs false
namespace Go.Proofs.Ytkhjnfplcaffnaa
open Go.RowKit
attribute [local go_sem ↓] Go.wp_at_zero Go.wp_at_succ

def pk (l : List Nat) (k n : Nat) : Array Value := (bys (D.padn (l.take k) n)).toArray
theorem pk_size (l : List Nat) (k n : Nat) : (pk l k n).size = n := by simp [pk, bys_len, D.padn_len]
theorem padn_get (l : List Nat) (n j : Nat) : (D.padn l n)[j]? = if j < n then some ((l[j]?).getD 0) else none := by
  unfold D.padn
  rw [List.getElem?_take]
  by_cases hj : j < n
  · rw [if_pos hj, if_pos hj]
    by_cases hl : j < l.length
    · rw [List.getElem?_append_left hl, List.getElem?_eq_getElem hl]; rfl
    · rw [List.getElem?_append_right (by omega), List.getElem?_eq_none (l := l) (by omega), List.getElem?_replicate, if_pos (by omega)]; rfl
  · rw [if_neg hj, if_neg hj]
theorem padn_next {l : List Nat} {k b n : Nat} (hb : l[k]? = some b) (hk : k < n) : D.padn (l.take (k + 1)) n = (D.padn (l.take k) n).set k b := by
  apply List.ext_getElem?
  intro j
  rw [List.getElem?_set, D.padn_len, padn_get, padn_get, List.getElem?_take, List.getElem?_take]
  by_cases e : k = j
  · subst e
    rw [if_pos hk, if_pos (by omega), hb, if_pos rfl, if_pos hk]; rfl
  · rw [if_neg e]
    by_cases h1 : j < k
    · rw [if_pos (show j < k + 1 by omega), if_pos h1]
    · rw [if_neg (show ¬ j < k + 1 by omega), if_neg h1]
theorem pk_next {l : List Nat} {k b n : Nat} (hb : l[k]? = some b) (hk : k < n) : (pk l k n).setIfInBounds k (.int .u8 b) = pk l (k + 1) n := by
  rw [pk, pk, padn_next hb hk, bys, bys, List.setIfInBounds_toArray, List.map_set]
theorem pk_end {l : List Nat} {k n : Nat} (h : k = l.length ∨ n ≤ k) (hk : k ≤ l.length) : pk l k n = (bys (D.padn l n)).toArray := by
  rw [pk]
  congr 2
  rcases h with rfl | h
  · rw [List.take_of_length_le (Nat.le_refl _)]
  · unfold D.padn
    rw [List.take_append_of_le_length (by simp; omega), List.take_append_of_le_length (by omega), List.take_take, Nat.min_eq_left h]
theorem pk_first (l : List Nat) (n : Nat) : pk l 0 n = pk [] 0 n := rfl
end Go.Proofs.Ytkhjnfplcaffnaa
