/-
  A turn on, by any number.
-/
import Derived.Test.YtphbjkcplpfogaaCtw
set_option linter.unusedVariables false
set_option linter.unusedSimpArgs false
namespace Go.Proofs.Ytphbjkcplpfogaa
open Go.RowKit
theorem tmod_nat (a b : Nat) : (a : Int).tmod (b : Int) = ((a % b : Nat) : Int) := (Int.ofNat_tmod a b).symm
theorem turn_u (tn : Int) : ∃ U : Nat, IntKind.u64.wrap tn = (U : Int) := by
  have h0 : 0 ≤ IntKind.u64.wrap tn := wrap_u64_nonneg tn
  exact ⟨(IntKind.u64.wrap tn).toNat, (Int.toNat_of_nonneg h0).symm⟩
theorem turn_facts (m M U j : Nat) (hM : U % m = M) (hj : j < m) (h : m ≤ 30) : M < m ∧ (U : Int).tmod (m : Int) = (M : Int) ∧ wrap64 (M : Int) = (M : Int) ∧ wrap64 ((j : Int) + (M : Int)) = (j : Int) + (M : Int) ∧ ((j : Int) + (M : Int)).tmod (m : Int) = (((j + M) % m : Nat) : Int) ∧ (j + M) % m < m := by
  have hl : M < m := by rw [← hM]; exact Nat.mod_lt _ (by omega)
  have w1 : wrap64 (M : Int) = (M : Int) := by clear hM; unfold wrap64; omega
  have w2 : wrap64 ((j : Int) + (M : Int)) = (j : Int) + (M : Int) := by clear hM; unfold wrap64; omega
  refine ⟨hl, ?_, w1, w2, ?_, Nat.mod_lt _ (by omega)⟩
  · rw [tmod_nat, hM]
  · rw [← Int.natCast_add, tmod_nat]
theorem turn_all {m M U j t : Nat} {tn : Int} (hUU : IntKind.u64.wrap tn = (U : Int)) (hU : (U : Int).tmod (m : Int) = (M : Int)) (hw1 : wrap64 (M : Int) = (M : Int)) (hw2 : wrap64 ((j : Int) + (M : Int)) = (j : Int) + (M : Int)) (ht2 : ((j : Int) + (M : Int)).tmod (m : Int) = (t : Int)) : (wrap64 ((j : Int) + wrap64 ((IntKind.u64.wrap tn).tmod (m : Int)))).tmod (m : Int) = (t : Int) := by
  simp only [hUU, hU, hw1, hw2, ht2]
theorem rot_next {ks : List D.Ky} {M j m t : Nat} {k : D.Ky} (hl : ks.length = m) (ht : (j + M) % m = t) (hk : ks[t]? = some k) : rot ks M (j + 1) = rot ks M j ++ [k] := by
  subst hl
  subst ht
  rw [rot_succ, List.getD_eq_getElem?_getD, hk, Option.getD_some]
theorem rot_len (ks : List D.Ky) (M j : Nat) : (rot ks M j).length = j := by simp [rot]
theorem rot_small {ks ms : List D.Ky} {M j : Nat} {o : Option Tk} (h : Cr.Tr.lso o = pts (rot ks M j) 0 (pts ms 1 [])) (hj : j ≤ 30) (hm : ms.length ≤ 30) : (Cr.Tr.lso o).length < 1000 := by
  have h1 := len_pts (pts_up 1 ms [] List.Pairwise.nil) h
  have h2 := pts_len 1 ms [] List.Pairwise.nil
  rw [rot_len] at h1
  simp only [List.length_nil] at h2
  omega
end Go.Proofs.Ytphbjkcplpfogaa
