/-
  Words for writers, readers and rows of fields in memory; and 'Only': of what was there only some blocks have turned.
-/
import Derived.Test.YtelifoagnheioaaFld
import Derived.Test.YtelifoagnheioaaPut
import Derived.Test.YtelifoagnheioaaRefMake
import Derived.Laws.OwnMore
set_option linter.unusedVariables false
set_option maxRecDepth 100000
set_option linter.unusedSimpArgs false
namespace Go.Proofs.Ytelifoagnheioaa
open Go.RowKit

theorem Blk.c {w : World} {g : Nat} {t : TypeId} {cs : Array Value} (h : Blk w g t cs) (i : Nat) : w.cell? ⟨g, i, none⟩ = cs[i]? := cell_of_row w g i cs t (0, 0) h.out
theorem Blk.f {w : World} {g : Nat} {t : TypeId} {cs : Array Value} (h : Blk w g t cs) (i : Nat) : w.frozen? ⟨g, i, none⟩ = false := by
  have := h.out
  simp [World.frozen?, this]
theorem Blk.put {w : World} {g : Nat} {t : TypeId} {cs : Array Value} (h : Blk w g t cs) (i : Nat) (u : Value) : Blk (w.setCell ⟨g, i, none⟩ u) g t (cs.setIfInBounds i u) := by
  have := h.out
  exact ⟨by simp [World.setCell, Array.getElem?_modify, this]⟩
theorem Blk.ne_ {w : World} {g g' : Nat} {t t' : TypeId} {cs cs' : Array Value} (h : Blk w g t cs) (h' : Blk w g' t' cs') (hne : t ≠ t') : g ≠ g' := by
  rintro rfl
  have h1 := h.out
  rw [h'.out] at h1
  injection h1 with h1
  injection h1 with _ ht
  exact hne ht.symm

theorem own_drewN {base n c : Nat} {w : World} {A : Option Addr} {l : List Nat} (h : Own base w A n c l) (q : Nat) : Own base (w.drewN q) A n c l := ⟨h.row, h.base⟩
theorem blk_drewN {w : World} {g : Nat} {t : TypeId} {cs : Array Value} (h : Blk w g t cs) (q : Nat) : Blk (w.drewN q) g t cs := ⟨h.out⟩

/-- Of what was there only the blocks S have turned. -/
structure Only (S : Nat → Prop) (w w' : World) : Prop where
  os : w'.os = w.os
  tape : w'.tape = w.tape
  output : w'.output = w.output
  size : w.heap.size ≤ w'.heap.size
  block : ∀ i, i < w.heap.size → ¬ S i → w'.heap[i]? = w.heap[i]?
section
variable {S T : Nat → Prop} {a b c w w' : World}
theorem Only.self (S : Nat → Prop) (w : World) : Only S w w := ⟨rfl, rfl, rfl, Nat.le_refl _, fun _ _ _ => rfl⟩
theorem Only.trans (h : Only S a b) (k : Only T b c) (hT : ∀ i, T i → S i ∨ a.heap.size ≤ i) : Only S a c :=
  ⟨k.os.trans h.os, k.tape.trans h.tape, k.output.trans h.output, Nat.le_trans h.size k.size, fun i hi hS =>
    (k.block i (Nat.lt_of_lt_of_le hi h.size) (fun t => (hT i t).elim hS (fun h => absurd hi (Nat.not_lt.2 h)))).trans (h.block i hi hS)⟩
theorem Only.more (h : Only S a b) (hT : ∀ i, S i → T i) : Only T a b := ⟨h.os, h.tape, h.output, h.size, fun i hi hS => h.block i hi fun s => hS (hT i s)⟩
theorem only_below (h : Below w.heap.size w w') : Only S w w' := ⟨h.os, h.tape, h.output, h.size, fun i hi _ => h.block i hi⟩
theorem Only.on (h : Only S a b) (k : Below b.heap.size b c) : Only S a c := h.trans (T := fun _ => False) (only_below k) fun _ hf => hf.elim
theorem Only.off (h : Below a.heap.size a b) (k : Only S b c) : Only S a c := (only_below (S := S) h).trans k fun _ hs => .inl hs
theorem Only.below {B : Nat} (h : Only S w w') (hB : B ≤ w.heap.size) (hS : ∀ i, S i → B ≤ i) : Below B w w' :=
  ⟨h.os, h.tape, h.output, h.size, fun i hi => h.block i (Nat.lt_of_lt_of_le hi hB) fun s => absurd hi (Nat.not_lt.2 (hS i s))⟩
theorem Only.set {p : Addr} (h : Only S a b) (hp : S p.block ∨ a.heap.size ≤ p.block) (u : Value) : Only S a (b.setCell p u) :=
  ⟨h.os, h.tape, h.output, by simpa [World.setCell] using h.size, fun i hi hS => (Below.heap_setCell b p u i (by
    rintro rfl
    rcases hp with hp | hp
    · exact hS hp
    · omega)).trans (h.block i hi hS)⟩
theorem Only.grown {row : Option Nat} (h : Only S a b) (hg : b.grownBy c row) (hr : ∀ k, row = some k → S k ∨ a.heap.size ≤ k) : Only S a c :=
  h.trans (T := fun i => row = some i) ⟨hg.os, hg.tape, hg.output, hg.size, fun i hi hn => hg.block i hi (fun e => hn e.symm)⟩ fun i hi => hr i hi
theorem Only.alloc (h : Only S a b) (o : Obj) : Only S a (b.alloc o) := h.on ((Below.refl _ _).alloc (Nat.le_refl _) o)
theorem Only.drewN (h : Only S a b) (n : Nat) : Only S a (b.drewN n) := ⟨h.os, h.tape, h.output, h.size, h.block⟩
theorem Blk.only {g : Nat} {t : TypeId} {cs : Array Value} (h : Blk w g t cs) (k : Only S w w') (hg : ¬ S g) : Blk w' g t cs := ⟨(k.block g h.lt hg).trans h.out⟩
theorem Row.only {A : Option Addr} {n : Nat} {xs : List Value} (h : Row w A n xs) (k : Only S w w') (hA : ∀ ad, A = some ad → ¬ S ad.block) : Row w' A n xs := ⟨h.len, fun hn => by
  obtain ⟨ad, e, hl, hc⟩ := h.to hn
  refine ⟨ad, e, Nat.lt_of_lt_of_le hl k.size, fun j u hu => ?_⟩
  have : (ad.add j).block = ad.block := block_of_add ad j
  rw [← hc j u hu]
  exact World.cell?_of_block (w := w) (by rw [this]; exact k.block _ hl (hA ad e))⟩
end

/-- The block of a slice. -/
def at_ (A : Option Addr) (i : Nat) : Prop := ∃ ad, A = some ad ∧ ad.block = i
theorem own_at {n c k : Nat} {A : Option Addr} (h : (Value.slice A n c).ownBlock = some k) : at_ A k := by
  cases A with
  | none => simp [Value.ownBlock] at h
  | some ad => exact ⟨ad, rfl, by simpa [Value.ownBlock] using h⟩
theorem at_own {n c k : Nat} {A : Option Addr} (h : at_ A k) : (Value.slice A n c).ownBlock = some k := by
  obtain ⟨ad, rfl, rfl⟩ := h
  simp [Value.ownBlock]

/-- A writer. -/
structure Wr (base : Nat) (w : World) (p : Nat) (A : Option Addr) (n c : Nat) (s : D.St) (room : Nat) : Prop where
  blk : Blk w p 92 #[.slice A n c, .int .i64 s.err, .int .i64 room]
  own : Own base w A n c s.out
  le : base ≤ p
/-- The blocks of a writer. -/
def Wf (p : Nat) (A : Option Addr) (i : Nat) : Prop := i = p ∨ at_ A i
/-- Where its bytes lie behind a call: where they lay, or in new memory. -/
def Nx (H : Nat) (A A' : Option Addr) : Prop := ∀ i, at_ A' i → at_ A i ∨ H ≤ i
theorem Nx.self (H : Nat) (A : Option Addr) : Nx H A A := fun i h => .inl h
theorem Nx.trans {H H' : Nat} {A A' B : Option Addr} (h : Nx H A A') (k : Nx H' A' B) (hH : H ≤ H') : Nx H A B := fun i hi => (k i hi).elim (fun h' => h i h') (fun h' => .inr (Nat.le_trans hH h'))
section
variable {base p n c room : Nat} {w w' : World} {A A' : Option Addr} {s : D.St}
theorem Wr.at_le (h : Wr base w p A n c s room) : ∀ i, Wf p A i → base ≤ i
  | _, .inl e => e ▸ h.le
  | i, .inr e => h.own.block_le i (at_own e)
theorem Wr.at_lt (h : Wr base w p A n c s room) : ∀ i, Wf p A i → i < w.heap.size
  | _, .inl e => e ▸ h.blk.lt
  | i, .inr e => (h.own.row.lt i (at_own e)).2
theorem Wr.on (h : Wr base w p A n c s room) (hb : Below w.heap.size w w') : Wr base w' p A n c s room := ⟨h.blk.on hb, h.own.more hb, h.le⟩
theorem Wr.only {S : Nat → Prop} (h : Wr base w p A n c s room) (k : Only S w w') (hS : ∀ i, Wf p A i → ¬ S i) : Wr base w' p A n c s room := by
  refine ⟨h.blk.only k (hS p (.inl rfl)), ⟨⟨h.own.row.1, ?_⟩, Nat.le_trans h.own.base k.size⟩, h.le⟩
  rcases h.own.row.2 with hn | ⟨g, cap, cur, e, hg, hh, r⟩
  · exact .inl hn
  · refine .inr ⟨g, cap, cur, e, hg, ?_, r⟩
    have hA : at_ A g := by injection e with e1; exact ⟨_, e1, rfl⟩
    rw [k.block g (Array.getElem?_eq_some_iff.1 hh).1 (hS g (.inr hA))]
    exact hh
theorem Wr.below {w0 : World} (h : Wr base w p A n c s room) (k : Only (Wf p A) w w') (hb : Below base w0 w) : Below base w0 w' := hb.trans (k.below h.own.base h.at_le)
theorem Wf.next {H : Nat} (h : Nx H A A') : ∀ i, Wf p A' i → Wf p A i ∨ H ≤ i
  | _, .inl e => .inl (.inl e)
  | i, .inr e => (h i e).elim (fun h => .inl (.inr h)) .inr
end
/-- A writer is told: the field was put. -/
def Wrote (base p room : Nat) (A : Option Addr) (s : D.St) (w : World) (e : Ending) (w' : World) : Prop :=
  e = .returned (.pointer (some ⟨p, 0, none⟩)) ∧ ∃ A' n' c', Wr base w' p A' n' c' s room ∧ Only (Wf p A) w w' ∧ Nx w.heap.size A A'

/-- A reader: its bytes, its place, its error. -/
structure Rd (w : World) (q : Nat) (B : Option Addr) (n c : Nat) (l : List Nat) (place e : Nat) : Prop where
  blk : Blk w q 102 #[.slice B n c, .int .i64 e, .int .i64 place]
  row : Row w B n (bys l)
  lt : Kept (∀ b ∈ l, b < 256)
  le : place ≤ n
  nc : n ≤ c
  cm : c ≤ 9223372036854775807
  small : n ≤ 1000000
  off : ∀ ad, B = some ad → ad.block ≠ q
theorem Rd.on {w w' : World} {q n c place e : Nat} {B : Option Addr} {l : List Nat} (h : Rd w q B n c l place e) (hb : Below w.heap.size w w') : Rd w' q B n c l place e := ⟨h.blk.on hb, h.row.on hb, h.lt, h.le, h.nc, h.cm, h.small, h.off⟩
theorem Rd.only {S : Nat → Prop} {w w' : World} {q n c place e : Nat} {B : Option Addr} {l : List Nat} (h : Rd w q B n c l place e) (k : Only S w w') (hq : ¬ S q) (hB : ∀ ad, B = some ad → ¬ S ad.block) : Rd w' q B n c l place e :=
  ⟨h.blk.only k hq, h.row.only k hB, h.lt, h.le, h.nc, h.cm, h.small, h.off⟩
end Go.Proofs.Ytelifoagnheioaa
