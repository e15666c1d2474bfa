/-
  
-/
import Derived.Test.YtjlaffgbmcpldaaGreatDoorG12
import Derived.Laws.OwnMore
import Derived.IntWalk
import Derived.Deep.RegionHeld3
import Derived.Deep.RegionLaw
import Derived.Deep.DrawnRows
import Derived.BigQuiet
import Derived.Deep.AppendLies
import Derived.Deep.QuietTactic
import Derived.Handy
import Derived.Laws.BitsAllLaws
import Derived.Lib.BytesEntry
import Derived.Lib.Hide
import Derived.Lib.Zigzag
import Derived.Maps.AppendAt
import Derived.OneCell
import Derived.OwnWalk
import Derived.Test.YtjlaffgbmcpldaaGreatDoorG11
import Derived.Test.YtjlaffgbmcpldaaGreatDoorG08
import Derived.Test.YtjlaffgbmcpldaaGreatDoorProg
import Derived.Test.YtjlaffgbmcpldaaGreatDoorRow
import Derived.Test.YtjlaffgbmcpldaaGreatDoorG04
import Derived.WalkLawsBesides
import Derived.WalkSpells
import Derived.Laws.IdiomStrings
set_option linter.unusedVariables false
set_option maxRecDepth 100000
set_option linter.unusedSimpArgs false
namespace Go.Proofs.YtjlaffgbmcpldaaGreatDoor
open Go.RowKit

structure Only (S : Nat → Prop) (w w' : World) : Prop where
 os : w'.os = w.os
 tape : w'.tape = w.tape
 output : w'.output = w.output
 size : w.heap.size ≤ w'.heap.size
 block : ∀ i, i < w.heap.size → ¬ S i → w'.heap[i]? = w.heap[i]?
section
variable {S T : Nat → Prop} {a b c w w' : World}
theorem Only.self (S : Nat → Prop) (w : World) : Only S w w := ⟨rfl, rfl, rfl, Nat.le_refl _, fun _ _ _ => rfl⟩
theorem Only.trans (h : Only S a b) (k : Only T b c) (hT : ∀ i, T i → S i ∨ a.heap.size ≤ i) : Only S a c :=
 ⟨k.os.trans h.os, k.tape.trans h.tape, k.output.trans h.output, Nat.le_trans h.size k.size, fun i hi hS =>
  (k.block i (Nat.lt_of_lt_of_le hi h.size) (fun t => (hT i t).elim hS (fun h => absurd hi (Nat.not_lt.2 h)))).trans (h.block i hi hS)⟩
theorem Only.more (h : Only S a b) (hT : ∀ i, S i → T i) : Only T a b := ⟨h.os, h.tape, h.output, h.size, fun i hi hS => h.block i hi fun s => hS (hT i s)⟩
theorem only_below (h : Below w.heap.size w w') : Only S w w' := ⟨h.os, h.tape, h.output, h.size, fun i hi _ => h.block i hi⟩
theorem Only.on (h : Only S a b) (k : Below b.heap.size b c) : Only S a c := h.trans (T := fun _ => False) (only_below k) fun _ hf => hf.elim
theorem Only.off (h : Below a.heap.size a b) (k : Only S b c) : Only S a c := (only_below (S := S) h).trans k fun _ hs => .inl hs
theorem Only.below {B : Nat} (h : Only S w w') (hB : B ≤ w.heap.size) (hS : ∀ i, S i → B ≤ i) : Below B w w' :=
 ⟨h.os, h.tape, h.output, h.size, fun i hi => h.block i (Nat.lt_of_lt_of_le hi hB) fun s => absurd hi (Nat.not_lt.2 (hS i s))⟩
theorem Only.set {p : Addr} (h : Only S a b) (hp : S p.block ∨ a.heap.size ≤ p.block) (u : Value) : Only S a (b.setCell p u) :=
 ⟨h.os, h.tape, h.output, by simpa [World.setCell] using h.size, fun i hi hS => (Below.heap_setCell b p u i (by
  rintro rfl
  rcases hp with hp | hp
  ·exact hS hp
  ·omega)).trans (h.block i hi hS)⟩
theorem Only.grown {row : Option Nat} (h : Only S a b) (hg : b.grownBy c row) (hr : ∀ k, row = some k → S k ∨ a.heap.size ≤ k) : Only S a c :=
 h.trans (T := fun i => row = some i) ⟨hg.os, hg.tape, hg.output, hg.size, fun i hi hn => hg.block i hi (fun e => hn e.symm)⟩ fun i hi => hr i hi
theorem Only.alloc (h : Only S a b) (o : Obj) : Only S a (b.alloc o) := h.on ((Below.refl _ _).alloc (Nat.le_refl _) o)
theorem Only.drewN (h : Only S a b) (n : Nat) : Only S a (b.drewN n) := ⟨h.os, h.tape, h.output, h.size, h.block⟩
theorem Blk.only {g : Nat} {t : TypeId} {cs : Array Value} (h : Blk w g t cs) (k : Only S w w') (hg : ¬ S g) : Blk w' g t cs := ⟨(k.block g h.lt hg).trans h.out⟩
theorem Row.only {A : Option Addr} {n : Nat} {xs : List Value} (h : Row w A n xs) (k : Only S w w') (hA : ∀ ad, A = some ad → ¬ S ad.block) : Row w' A n xs := ⟨h.len, fun hn => by
 obtain ⟨ad, e, hl, hc⟩ := h.tow hn
 refine ⟨ad, e, Nat.lt_of_lt_of_le hl k.size, fun j u hu => ?_⟩
 have : (ad.add j).block = ad.block := block_of_add ad j
 rw [← hc j u hu]
 exact World.cell?_of_block (w := w) (by rw [this]; exact k.block _ hl (hA ad e))⟩
end

def at_ (A : Option Addr) (i : Nat) : Prop := ∃ ad, A = some ad ∧ ad.block = i
theorem own_at {n c k : Nat} {A : Option Addr} (h : (Value.slice A n c).ownBlock = some k) : at_ A k := by
 cases A with
 | none => simp [Value.ownBlock] at h
 | some ad => exact ⟨ad, rfl, by simpa [Value.ownBlock] using h⟩
theorem at_own {n c k : Nat} {A : Option Addr} (h : at_ A k) : (Value.slice A n c).ownBlock = some k := by
 obtain ⟨ad, rfl, rfl⟩ := h
 simp [Value.ownBlock]

def Wf (p : Nat) (A : Option Addr) (i : Nat) : Prop := i = p ∨ at_ A i
def Nx (H : Nat) (A A' : Option Addr) : Prop := ∀ i, at_ A' i → at_ A i ∨ H ≤ i
theorem Nx.self (H : Nat) (A : Option Addr) : Nx H A A := fun i h => .inl h
theorem Nx.trans {H H' : Nat} {A A' B : Option Addr} (h : Nx H A A') (k : Nx H' A' B) (hH : H ≤ H') : Nx H A B := fun i hi => (k i hi).elim (fun h' => h i h') (fun h' => .inr (Nat.le_trans hH h'))
section
variable {base p n c room : Nat} {w w' : World} {A A' : Option Addr} {s : D.St}
end
end Go.Proofs.YtjlaffgbmcpldaaGreatDoor
set_option linter.unusedVariables false
set_option maxRecDepth 100000
set_option linter.unusedSimpArgs false
namespace Go.Proofs.YtjlaffgbmcpldaaGreatDoor
open Go.RowKit
attribute [local go_sem ↓] Go.wp_at_zero Go.wp_at_succ

theorem row_of_text (w : World) (s : ByteArray) (cap : Nat) (t : TypeId) (fr : Nat × Nat) : Row (w.alloc (.cells (bytesRow s cap) t fr)) (some ⟨w.heap.size, 0, none⟩) s.size (bys (D.ns s)) :=
 ⟨by rw [bys_len, D.ns_len], fun _ => ⟨_, rfl, by simp, fun j u hu => by
  have hj : j < s.data.size := by
   have := (List.getElem?_eq_some_iff.1 hu).1
   rw [bys_len, D.ns_len] at this
   exact this
  rw [World.news_of_block (heap_alloc_new w _) j u]
  rw [Array.getElem?_toList, bytesRow_at s cap j hj]
  simp [bys, D.ns] at hu
  obtain ⟨a, ha, rfl⟩ := hu
  have : s.data[j]? = some s.data[j] := Array.getElem?_eq_getElem hj
  rw [this] at ha
  injection ha with ha
  rw [ha]⟩⟩
section
variable {P : Program} {ops : Array Oper} {Q : Exit → Act → World → Prop} {md : Region.Mode} {S : World → Prop}
end
end Go.Proofs.YtjlaffgbmcpldaaGreatDoor
set_option linter.unusedVariables false
set_option maxRecDepth 100000
set_option linter.unusedSimpArgs false
namespace Go.Proofs.YtjlaffgbmcpldaaGreatDoor
open Go.RowKit
attribute [local go_sem ↓] Go.wp_at_zero Go.wp_at_succ

theorem below_alloc (w : World) (o : Obj) : Below w.heap.size w (w.alloc o) := (Below.refl _ _).alloc (Nat.le_refl _) o
section
variable (base p room n c : Nat) (A : Option Addr) (s : D.St) (w : World)
end
end Go.Proofs.YtjlaffgbmcpldaaGreatDoor
