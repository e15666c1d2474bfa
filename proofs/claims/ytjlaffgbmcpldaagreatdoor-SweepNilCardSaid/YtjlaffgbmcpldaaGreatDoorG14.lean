/-
  
-/
import Derived.Test.YtjlaffgbmcpldaaGreatDoorG13
import Derived.Laws.IdiomStrings
set_option linter.unusedVariables false
set_option maxRecDepth 100000
set_option linter.unusedSimpArgs false
namespace Go.Proofs.YtjlaffgbmcpldaaGreatDoor
open Go.RowKit
attribute [local go_sem ↓] Go.wp_at_zero Go.wp_at_succ

theorem row_of_text (w : World) (s : ByteArray) (cap : Nat) (t : TypeId) (fr : Nat × Nat) : Row (w.alloc (.cells (bytesRow s cap) t fr)) (some ⟨w.heap.size, 0, none⟩) s.size (bys (D.ns s)) :=
 ⟨by rw [bys_len, D.ns_len], fun _ => ⟨_, rfl, by simp, fun j u hu => by
  have hj : j < s.data.size := by
   have := (List.getElem?_eq_some_iff.1 hu).1
   rw [bys_len, D.ns_len] at this
   exact this
  rw [World.news_of_block (heap_alloc_new w _) j u]
  rw [Array.getElem?_toList, bytesRow_at s cap j hj]
  simp [bys, D.ns] at hu
  obtain ⟨a, ha, rfl⟩ := hu
  have : s.data[j]? = some s.data[j] := Array.getElem?_eq_getElem hj
  rw [this] at ha
  injection ha with ha
  rw [ha]⟩⟩
section
variable {P : Program} {ops : Array Oper} {Q : Exit → Act → World → Prop} {md : Region.Mode} {S : World → Prop}
end

theorem below_alloc (w : World) (o : Obj) : Below w.heap.size w (w.alloc o) := (Below.refl _ _).alloc (Nat.le_refl _) o
section
variable (base p room n c : Nat) (A : Option Addr) (s : D.St) (w : World)
end
end Go.Proofs.YtjlaffgbmcpldaaGreatDoor
