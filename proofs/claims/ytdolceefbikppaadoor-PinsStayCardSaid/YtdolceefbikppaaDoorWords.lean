/-
  Words for writers, readers and rows of fields in memory; and 'Only': of what was there only some blocks have turned.
-/
import Derived.Test.YtdolceefbikppaaDoorMem
import Derived.Laws.OwnMore
import Derived.IntWalk
import Derived.Deep.RegionHeld3
import Derived.Deep.RegionLaw
import Derived.Deep.DrawnRows
set_option linter.unusedVariables false
set_option maxRecDepth 100000
set_option linter.unusedSimpArgs false
namespace Go.Proofs.YtdolceefbikppaaDoor
open Go.RowKit

theorem Blk.c {w : World} {g : Nat} {t : TypeId} {cs : Array Value} (h : Blk w g t cs) (i : Nat) : w.cell? ⟨g, i, none⟩ = cs[i]? := cell_of_row w g i cs t (0, 0) h.out
theorem Blk.f {w : World} {g : Nat} {t : TypeId} {cs : Array Value} (h : Blk w g t cs) (i : Nat) : w.frozen? ⟨g, i, none⟩ = false := by
  have := h.out
  simp [World.frozen?, this]
theorem Blk.put {w : World} {g : Nat} {t : TypeId} {cs : Array Value} (h : Blk w g t cs) (i : Nat) (u : Value) : Blk (w.setCell ⟨g, i, none⟩ u) g t (cs.setIfInBounds i u) := by
  have := h.out
  exact ⟨by simp [World.setCell, Array.getElem?_modify, this]⟩
theorem Blk.ne_ {w : World} {g g' : Nat} {t t' : TypeId} {cs cs' : Array Value} (h : Blk w g t cs) (h' : Blk w g' t' cs') (hne : t ≠ t') : g ≠ g' := by
  rintro rfl
  have h1 := h.out
  rw [h'.out] at h1
  injection h1 with h1
  injection h1 with _ ht
  exact hne ht.symm

theorem own_drewN {base n c : Nat} {w : World} {A : Option Addr} {l : List Nat} (h : Own base w A n c l) (q : Nat) : Own base (w.drewN q) A n c l := ⟨h.row, h.base⟩
theorem blk_drewN {w : World} {g : Nat} {t : TypeId} {cs : Array Value} (h : Blk w g t cs) (q : Nat) : Blk (w.drewN q) g t cs := ⟨h.out⟩

/-- Of what was there only the blocks S have turned. -/
structure Only (S : Nat → Prop) (w w' : World) : Prop where
  os : w'.os = w.os
  tape : w'.tape = w.tape
  output : w'.output = w.output
  size : w.heap.size ≤ w'.heap.size
  block : ∀ i, i < w.heap.size → ¬ S i → w'.heap[i]? = w.heap[i]?
section
variable {S T : Nat → Prop} {a b c w w' : World}
theorem Only.self (S : Nat → Prop) (w : World) : Only S w w := ⟨rfl, rfl, rfl, Nat.le_refl _, fun _ _ _ => rfl⟩
theorem Only.trans (h : Only S a b) (k : Only T b c) (hT : ∀ i, T i → S i ∨ a.heap.size ≤ i) : Only S a c :=
  ⟨k.os.trans h.os, k.tape.trans h.tape, k.output.trans h.output, Nat.le_trans h.size k.size, fun i hi hS =>
    (k.block i (Nat.lt_of_lt_of_le hi h.size) (fun t => (hT i t).elim hS (fun h => absurd hi (Nat.not_lt.2 h)))).trans (h.block i hi hS)⟩
theorem Only.more (h : Only S a b) (hT : ∀ i, S i → T i) : Only T a b := ⟨h.os, h.tape, h.output, h.size, fun i hi hS => h.block i hi fun s => hS (hT i s)⟩
theorem only_below (h : Below w.heap.size w w') : Only S w w' := ⟨h.os, h.tape, h.output, h.size, fun i hi _ => h.block i hi⟩
theorem Only.on (h : Only S a b) (k : Below b.heap.size b c) : Only S a c := h.trans (T := fun _ => False) (only_below k) fun _ hf => hf.elim
theorem Only.off (h : Below a.heap.size a b) (k : Only S b c) : Only S a c := (only_below (S := S) h).trans k fun _ hs => .inl hs
theorem Only.below {B : Nat} (h : Only S w w') (hB : B ≤ w.heap.size) (hS : ∀ i, S i → B ≤ i) : Below B w w' :=
  ⟨h.os, h.tape, h.output, h.size, fun i hi => h.block i (Nat.lt_of_lt_of_le hi hB) fun s => absurd hi (Nat.not_lt.2 (hS i s))⟩
theorem Only.set {p : Addr} (h : Only S a b) (hp : S p.block ∨ a.heap.size ≤ p.block) (u : Value) : Only S a (b.setCell p u) :=
  ⟨h.os, h.tape, h.output, by simpa [World.setCell] using h.size, fun i hi hS => (Below.heap_setCell b p u i (by
    rintro rfl
    rcases hp with hp | hp
    · exact hS hp
    · omega)).trans (h.block i hi hS)⟩
theorem Only.grown {row : Option Nat} (h : Only S a b) (hg : b.grownBy c row) (hr : ∀ k, row = some k → S k ∨ a.heap.size ≤ k) : Only S a c :=
  h.trans (T := fun i => row = some i) ⟨hg.os, hg.tape, hg.output, hg.size, fun i hi hn => hg.block i hi (fun e => hn e.symm)⟩ fun i hi => hr i hi
theorem Only.alloc (h : Only S a b) (o : Obj) : Only S a (b.alloc o) := h.on ((Below.refl _ _).alloc (Nat.le_refl _) o)
theorem Only.drewN (h : Only S a b) (n : Nat) : Only S a (b.drewN n) := ⟨h.os, h.tape, h.output, h.size, h.block⟩
theorem Blk.only {g : Nat} {t : TypeId} {cs : Array Value} (h : Blk w g t cs) (k : Only S w w') (hg : ¬ S g) : Blk w' g t cs := ⟨(k.block g h.lt hg).trans h.out⟩
theorem Row.only {A : Option Addr} {n : Nat} {xs : List Value} (h : Row w A n xs) (k : Only S w w') (hA : ∀ ad, A = some ad → ¬ S ad.block) : Row w' A n xs := ⟨h.len, fun hn => by
  obtain ⟨ad, e, hl, hc⟩ := h.to hn
  refine ⟨ad, e, Nat.lt_of_lt_of_le hl k.size, fun j u hu => ?_⟩
  have : (ad.add j).block = ad.block := block_of_add ad j
  rw [← hc j u hu]
  exact World.cell?_of_block (w := w) (by rw [this]; exact k.block _ hl (hA ad e))⟩
end

/-- The block of a slice. -/
def at_ (A : Option Addr) (i : Nat) : Prop := ∃ ad, A = some ad ∧ ad.block = i
theorem own_at {n c k : Nat} {A : Option Addr} (h : (Value.slice A n c).ownBlock = some k) : at_ A k := by
  cases A with
  | none => simp [Value.ownBlock] at h
  | some ad => exact ⟨ad, rfl, by simpa [Value.ownBlock] using h⟩
theorem at_own {n c k : Nat} {A : Option Addr} (h : at_ A k) : (Value.slice A n c).ownBlock = some k := by
  obtain ⟨ad, rfl, rfl⟩ := h
  simp [Value.ownBlock]

/-- The blocks of a writer. -/
def Wf (p : Nat) (A : Option Addr) (i : Nat) : Prop := i = p ∨ at_ A i
/-- Where its bytes lie behind a call: where they lay, or in new memory. -/
def Nx (H : Nat) (A A' : Option Addr) : Prop := ∀ i, at_ A' i → at_ A i ∨ H ≤ i
theorem Nx.self (H : Nat) (A : Option Addr) : Nx H A A := fun i h => .inl h
theorem Nx.trans {H H' : Nat} {A A' B : Option Addr} (h : Nx H A A') (k : Nx H' A' B) (hH : H ≤ H') : Nx H A B := fun i hi => (k i hi).elim (fun h' => h i h') (fun h' => .inr (Nat.le_trans hH h'))
theorem below_alloc_ (w : World) (o : Obj) : Below w.heap.size w (w.alloc o) := (Below.refl _ _).alloc (Nat.le_refl _) o
theorem cell_kept_ {w w' : World} (hb : Below w.heap.size w w') {a : Addr} {v : Value} (h : w.cell? a = some v) : w'.cell? a = some v := (World.cell?_of_block (hb.block _ (World.block_lt_of_cell? w _ h))).trans h
theorem below_up {B : Nat} {w0 w w' : World} (h : Below B w0 w) (hs : B ≤ w.heap.size) (hb : Below w.heap.size w w') : Below B w0 w' := h.trans (hb.mono hs)
theorem below_dn {w0 w : World} {B : Nat} (h : Below B w0 w) (n : Nat) : Below B w0 (w.drewN n) := ⟨h.os, h.tape, h.output, h.size, h.block⟩
theorem add_o (g o j : Nat) : (⟨g, o, none⟩ : Addr).add j = ⟨g, o + j, none⟩ := by simp [Addr.add]
end Go.Proofs.YtdolceefbikppaaDoor
