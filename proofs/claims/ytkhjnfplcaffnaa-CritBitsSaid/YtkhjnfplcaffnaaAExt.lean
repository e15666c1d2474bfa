/-
  Regions that draw their order and only read, whose calls may lay blocks: one walk, in the class of the worlds that only have grown.
-/
import Derived.Test.YtkhjnfplcaffnaaGc
import Derived.BigQuiet
import Derived.Deep.Light
set_option linter.unusedVariables false
set_option linter.unusedSimpArgs false
set_option maxRecDepth 100000
namespace Go.Proofs.Ytkhjnfplcaffnaa.Nm
open Go.RowKit

/-- How far on a world is: its draws, and its new blocks. -/
structure On where
  n : Nat
  os : Array Obj
  deriving Inhabited
def ext (w : World) (p : On) : World := { w with heap := w.heap ++ p.os, drawn := p.n }
theorem ext_heap (w : World) (p : On) {k : Nat} (h : k < w.heap.size) : (ext w p).heap[k]? = w.heap[k]? := by simp [ext, Array.getElem?_append, h]
theorem ext_size (w : World) (p : On) : w.heap.size ≤ (ext w p).heap.size := by simp [ext]
theorem ext_below (w : World) (p : On) : Below w.heap.size w (ext w p) := ⟨rfl, rfl, rfl, ext_size w p, fun k hk => ext_heap w p hk⟩
theorem ext_of {w w' : World} (h : Below w.heap.size w w') : ∃ p, w' = ext w p := by
  obtain ⟨heap, tape, drawn, os, output⟩ := w
  obtain ⟨heap', tape', drawn', os', output'⟩ := w'
  obtain ⟨h1, h2, h3, h4, h5⟩ := h
  simp only at h1 h2 h3 h4 h5
  subst h1 h2 h3
  refine ⟨⟨drawn', heap'.extract heap.size heap'.size⟩, ?_⟩
  simp only [ext]
  congr 1
  apply Array.ext_getElem?
  intro i
  rw [Array.getElem?_append]
  by_cases hi : i < heap.size
  · rw [if_pos hi]; exact h5 i hi
  · rw [if_neg hi, Array.getElem?_extract]
    split
    · congr 1; omega
    · rw [Array.getElem?_eq_none (by omega)]
theorem ext_to {w w' : World} (h : ∃ p, w' = ext w p) : Below w.heap.size w w' := by
  obtain ⟨p, rfl⟩ := h
  exact ext_below w p
theorem wp_region_ext {P : Program} {id : Nat} {Q : Exit → Act → World → Prop} {a : Act} {w : World} {l : List Oper} (hm : P.follows .mixedOrders = true) (hB : Region.lexB .any l.toArray = true)
    (h : wpQuiet P l.toArray (fun w' => ∃ p : On, w' = ext w p) (fun a' => ∀ w', (∃ p : On, w' = ext w p) → Q .normal a' w') l a) : (Code.region id l.toArray true).wp P Q a w :=
  wp_region_quiet (C := fun w' => ∃ p : On, w' = ext w p) hm hB ⟨⟨w.drawn + 1, #[]⟩, by simp [ext]⟩ (by simpa using h)
theorem calls_ext {P : Program} {f : FuncId} {args : Array Value} {w : World} {p : On} {v : Value}
    (h : Calls P f args (ext w p) fun e w' => e = .returned v ∧ Below (ext w p).heap.size (ext w p) w') : Calls P f args (ext w p) fun e w'' => e = .returned v ∧ ∃ p : On, w'' = ext w p :=
  h.mono fun _ _ ⟨he, hb⟩ => ⟨he, ext_of ((ext_below w p).trans (hb.mono (ext_size w p)))⟩
theorem calls_same {P : Program} {f : FuncId} {args : Array Value} {w : World} {p : On} {v : Value}
    (h : Calls P f args (ext w p) fun e w' => e = .returned v ∧ ext w p = w') : Calls P f args (ext w p) fun e w'' => e = .returned v ∧ ∃ p : On, w'' = ext w p :=
  h.mono fun _ _ ⟨he, hb⟩ => ⟨he, p, hb.symm⟩
theorem rd_ext (w : World) (p : On) (a : Addr) (h : a.block < w.heap.size) : rd (ext w p) a = rd w a := rd_to (ext_heap w p h)
theorem cell_ext (w : World) (p : On) (a : Addr) (h : a.block < w.heap.size) : (ext w p).cell? a = w.cell? a := World.cell?_of_block (ext_heap w p h)
theorem nrow_ext {w : World} {A : Option Addr} {n : Nat} {l : List D.Nm} (h : NRow w A n l) (p : On) : NRow (ext w p) A n l := h.on (ext_below w p)
end Go.Proofs.Ytkhjnfplcaffnaa.Nm
