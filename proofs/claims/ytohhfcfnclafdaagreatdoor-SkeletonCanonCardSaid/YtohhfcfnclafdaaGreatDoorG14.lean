/-
  The document's sets and words.
  The document's Category and Legal: what is wrong with a case's word.
  Parts in memory: append of one part; the first part of a row; cuts of texts; blocks known whole.
-/
import Derived.Test.YtohhfcfnclafdaaGreatDoorG11
import Derived.Deep.CutRange
import Derived.Test.YtohhfcfnclafdaaGreatDoorG13
import Derived.Test.YtohhfcfnclafdaaGreatDoorG12
import Derived.Test.YtohhfcfnclafdaaGreatDoorRow
set_option linter.unusedVariables false
set_option linter.unusedSimpArgs false
set_option maxRecDepth 100000
namespace Go.Proofs.YtohhfcfnclafdaaGreatDoor
open Go.RowKit
attribute [local go_sem ↓] Go.wp_at_zero Go.wp_at_succ
abbrev f6 : Array Value := #[.bool false, .bool false, .bool false, .bool false, .bool false, .bool false]
end Go.Proofs.YtohhfcfnclafdaaGreatDoor
set_option linter.unusedVariables false
set_option linter.unusedSimpArgs false
set_option maxRecDepth 100000
namespace Go.Proofs.YtohhfcfnclafdaaGreatDoor
open Go.RowKit
attribute [local go_sem ↓] Go.wp_at_zero Go.wp_at_succ
theorem txt_u8 (u : List UInt8) (l : List Nat) (s : ByteArray) (h : u.map (·.toNat) = l) : (u == s.toList) = decide (l = D.ns s) := by
  have e := txt_eq ⟨u.toArray⟩ s
  have e2 : (⟨u.toArray⟩ : ByteArray).toList = u := by rw [ByteArray.toList_eq]
  have e3 : D.ns ⟨u.toArray⟩ = l := by rw [D.ns, ← h]
  rw [e2, e3] at e
  exact e
end Go.Proofs.YtohhfcfnclafdaaGreatDoor
set_option linter.unusedVariables false
set_option linter.unusedSimpArgs false
set_option maxRecDepth 100000
namespace Go.Proofs.YtohhfcfnclafdaaGreatDoor
open Go.RowKit

theorem ext_sub (s : ByteArray) (i k : Nat) : s.extract i k = D.sb (D.sub (D.ns s) i k) := by
  rw [← D.sb_ns (s.extract i k)]
  congr 1
  unfold D.ns D.sub
  simp [List.map_drop, List.map_take, List.drop_take]
theorem ns_lt (s : ByteArray) : ∀ c ∈ D.ns s, c < 256 := by
  intro c hc
  obtain ⟨b, _, rfl⟩ := List.mem_map.1 hc
  exact b.toNat_lt
theorem sub_lt {l : List Nat} (h : ∀ c ∈ l, c < 256) (i k : Nat) : ∀ c ∈ D.sub l i k, c < 256 := fun c hc => h c (List.mem_of_mem_take (List.mem_of_mem_drop hc))
theorem add_succ (a : Addr) (j : Nat) : a.add (j + 1) = ⟨a.block, a.off + (j + 1), none⟩ := by unfold Addr.add; simp
theorem ow_below {T : TypeId} {sz base n c : Nat} {w w' : World} {A : Option Addr} {xs : List Value} (h : Ow T sz base w A n c xs) (hg : w.grownBy w' (Value.slice A n c).ownBlock) : Below base w w' :=
  ⟨hg.os, hg.tape, hg.output, hg.size, fun i hi => hg.block i (Nat.lt_of_lt_of_le hi h.base) fun e => by
    have := (h.lt i e.symm).1
    omega⟩
theorem Ac.own_lt {T : TypeId} {r base n c : Nat} {w : World} {A : Option Addr} {l : List D.Nd} (h : Ac T r base w A n c l) : ∀ k, (Value.slice A n c).ownBlock = some k → base ≤ k ∧ k < w.heap.size := by
  obtain ⟨vs, ho, _⟩ := h.out
  exact ho.lt
end Go.Proofs.YtohhfcfnclafdaaGreatDoor
