import Derived.Test.YtgnjjlgmlokhmaaGreatDoorProg
import Derived.Test.YtgnjjlgmlokhmaaGreatDoorG00
import Derived.WalkSpells
import Derived.WalkLawsBesides
import Derived.Handy
import Derived.BigQuiet
import Derived.Deep.QuietTactic
import Derived.Maps.AppendAt
import Derived.Deep.AppendLies
import Derived.OneCell
import Derived.OwnWalk
import Derived.Lib.Hide
import Derived.Lib.BytesEntry
set_option linter.unusedVariables false
set_option linter.unusedSimpArgs false
namespace Go.Proofs.YtgnjjlgmlokhmaaGreatDoor
open Go.RowKit

structure Kept (p : Prop) : Prop where
 out : p
theorem ret_of {k : IntKind} {a b : Int} (h : a = b) : Ending.returned (.int k a) = .returned (.int k b) := by rw [h]
theorem bool_of {a b : Bool} (h : a = b) : Ending.returned (.bool a) = .returned (.bool b) := by rw [h]
theorem quietly {P : Program} {f : FuncId} {args : Array Value} {w : World} {n : Nat} {v : Value}
  (h : Calls P f args (w.drewN n) fun e w' => e = .returned v ∧ w.drewN n = w') : Calls P f args (w.drewN n) fun e w'' => e = .returned v ∧ ∃ m, w'' = w.drewN m :=
 h.mono fun _ _ ⟨he, hm⟩ => ⟨he, n, hm.symm⟩
def bys (l : List Nat) : List Value := l.map fun (b : Nat) => .int .u8 (b : Int)
def wds (l : List Nat) : List Value := l.map fun (b : Nat) => .int .u64 (b : Int)
theorem bys_len (l : List Nat) : (bys l).length = l.length := by simp [bys]
theorem bys_app (l k : List Nat) : bys (l ++ k) = bys l ++ bys k := by simp [bys]
theorem bys_at {l : List Nat} {i b : Nat} (h : l[i]? = some b) : (bys l)[i]? = some (.int .u8 b) := by simp [bys, h]
theorem bys_drop (l : List Nat) (k : Nat) : (bys l).drop k = bys (l.drop k) := by simp [bys]
theorem bys_take (l : List Nat) (k : Nat) : (bys l).take k = bys (l.take k) := by simp [bys]
theorem bys_one (l : List Nat) : ∀ u ∈ bys l, u.oneCell' = true := by
 intro u hu
 obtain ⟨b, _, rfl⟩ := List.mem_map.1 hu
 rfl
theorem at_lt {l : List Nat} {i : Nat} (h : i < l.length) : ∃ b, l[i]? = some b ∧ b ∈ l := ⟨l[i], List.getElem?_eq_getElem h, List.getElem_mem h⟩
theorem block_of_add (a : Addr) (n : Nat) : (a.add n).block = a.block := by unfold Addr.add; split <;> rfl
theorem add_of_add (a : Addr) (i j : Nat) : (a.add i).add j = a.add (i + j) := by
 unfold Addr.add
 by_cases hi : i = 0 <;> by_cases hj : j = 0 <;> simp [hi, hj, Nat.add_assoc]
theorem add_zero_ (a : Addr) : a.add 0 = a := by unfold Addr.add; simp

structure Row (w : World) (A : Option Addr) (n : Nat) (xs : List Value) : Prop where
 len : xs.length = n
 tow : 0 < n -> ∃ ad, A = some ad ∧ ad.block < w.heap.size ∧ ∀ j u, xs[j]? = some u -> w.cell? (ad.add j) = some u
section
variable {w w' : World} {n : Nat} {A : Option Addr} {xs : List Value}
theorem Row.nil (w : World) (A : Option Addr) : Row w A 0 [] := ⟨rfl, fun h => absurd h (by omega)⟩
theorem Row.on (h : Row w A n xs) (hb : Below w.heap.size w w') : Row w' A n xs := ⟨h.len, fun hn => by
 obtain ⟨ad, e, hl, hc⟩ := h.tow hn
 exact ⟨ad, e, Nat.lt_of_lt_of_le hl hb.size, fun j u hu => (hb.cell (p := ad.add j) (by rw [block_of_add]; exact hl)).trans (hc j u hu)⟩⟩
theorem Row.drew (h : Row w A n xs) : Row w.drew A n xs := h.on ((Below.refl _ _).drew)
theorem Row.drewN (h : Row w A n xs) (k : Nat) : Row (w.drewN k) A n xs := h.on ⟨rfl, rfl, rfl, Nat.le_refl _, fun _ _ => rfl⟩
theorem Row.alloc (h : Row w A n xs) (o : Obj) : Row (w.alloc o) A n xs := h.on ((Below.refl _ _).alloc (Nat.le_refl _) o)
theorem Row.cell {k : Nat} {u : Value} (h : Row w A n xs) (hu : xs[k]? = some u) : ∃ ad, A = some ad ∧ w.cell? (ad.add k) = some u := by
 have hk : k < xs.length := (List.getElem?_eq_some_iff.1 hu).1
 obtain ⟨ad, e, _, hc⟩ := h.tow (by have := h.len; omega)
 exact ⟨ad, e, hc k u hu⟩
theorem Row.take (h : Row w A n xs) {k : Nat} (hk : k <= n) : Row w A k (xs.take k) :=
 ⟨by have := h.len; simp; omega, fun h0 => by
  obtain ⟨ad, e, hl, hc⟩ := h.tow (by omega)
  refine ⟨ad, e, hl, fun j u hu => hc j u ?_⟩
  rw [List.getElem?_take] at hu
  split at hu
  ·exact hu
  ·cases hu⟩
theorem Row.cut (h : Row w A n xs) {k cap : Nat} (hk : k <= n) (hc : n <= cap) : Row w (if cap = k then A else A.map (·.add k)) (n - k) (xs.drop k) :=
 ⟨by have := h.len; simp; omega, fun hn => by
  obtain ⟨ad, rfl, hb, hcell⟩ := h.tow (by omega)
  rw [if_neg (by omega)]
  refine ⟨ad.add k, rfl, by rw [block_of_add]; exact hb, fun j u hu => ?_⟩
  rw [add_of_add]
  exact hcell _ u (by rw [<- hu, List.getElem?_drop])⟩
end

structure Own (base : Nat) (w : World) (A : Option Addr) (n c : Nat) (l : List Nat) : Prop where
 row : w.ownsRow base 5 1 (.slice A n c) n (bys l)
 base : base <= w.heap.size
section
variable {base n c : Nat} {w w' : World} {A : Option Addr} {l : List Nat}
theorem Own.len (h : Own base w A n c l) : l.length = n := by have := h.row.1; rwa [bys_len, Nat.mul_one] at this
theorem Own.cap (h : Own base w A n c l) : n <= c ∧ c <= maxLen := by
 rcases h.row.2 with ⟨e, h0⟩ | ⟨g, cap, cur, e, _, _, h1, h2, _⟩
 ·injection e with _ _ e2
  exact ⟨by omega, by rw [e2]; exact Nat.zero_le _⟩
 ·injection e with _ _ e2
  subst e2
  exact ⟨h1, h2⟩
theorem Own.to_row (h : Own base w A n c l) : Row w A n (bys l) :=
 ⟨by rw [bys_len, h.len], fun hn => by
  obtain ⟨g, cap, e, _, hlt⟩ := h.row.form hn
  have hA : A = some ⟨g, 0, none⟩ := by injection e
  subst hA
  exact ⟨_, rfl, hlt, h.row.cells (g := g) rfl⟩⟩
theorem Own.nil (h : base <= w.heap.size) : Own base w none 0 0 [] := ⟨World.ownsRow_nil _ _ _ _, h⟩
theorem Own.lit (h : base <= w.heap.size) {z : Int} {b : Nat} (hz : z = b) : Own base (w.alloc (.cells #[.int .u8 z] 5)) (some ⟨w.heap.size, 0, none⟩) 1 1 [b] := by
 subst hz
 exact ⟨World.ownsRow_lit w #[.int .u8 b] 1 h (by simp [maxLen]) rfl, by simp; omega⟩
theorem Own.alloc (h : Own base w A n c l) (o : Obj) : Own base (w.alloc o) A n c l := ⟨h.row.alloc o, by have := h.base; simp; omega⟩
theorem Own.drew (h : Own base w A n c l) : Own base w.drew A n c l := ⟨h.row.drew, h.base⟩
theorem Own.more (h : Own base w A n c l) (hb : Below w.heap.size w w') : Own base w' A n c l := by
 refine ⟨⟨h.row.1, ?_⟩, Nat.le_trans h.base hb.size⟩
 rcases h.row.2 with hn | ⟨g, cap, cur, e, hg, hh, r⟩
 ·exact .inl hn
 ·refine .inr ⟨g, cap, cur, e, hg, ?_, r⟩
  rw [hb.block g (Array.getElem?_eq_some_iff.1 hh).1]
  exact hh
theorem Own.block_le (h : Own base w A n c l) : ∀ k, (Value.slice A n c).ownBlock = some k -> base <= k := fun k hk => (h.row.lt k hk).1
end

def Made (W : World) (l : List Nat) (e : Ending) (w' : World) : Prop := ∃ A c, e = .returned (.slice A l.length c) ∧ Own W.heap.size w' A l.length c l ∧ Below W.heap.size W w'
theorem made {W w' : World} {A : Option Addr} {n c : Nat} {l : List Nat} (h : Own W.heap.size w' A n c l) (hb : Below W.heap.size W w') : Made W l (.returned (.slice A n c)) w' := by
 have := h.len
 subst this
 exact ⟨A, c, rfl, h, hb⟩
section
variable (w : World)
end

structure Blk (w : World) (g : Nat) (t : TypeId) (cs : Array Value) : Prop where
 out : w.heap[g]? = some (.cells cs t (0, 0))
section
variable {w w' : World} {g : Nat} {t : TypeId} {cs : Array Value}
theorem Blk.lt (h : Blk w g t cs) : g < w.heap.size := lt_of_block h.out
theorem Blk.cell {v : Value} (h : Blk w g t #[v]) : w.cell? ⟨g, 0, none⟩ = some v := cell_of_one h.out
theorem Blk.free {v : Value} (h : Blk w g t #[v]) : w.frozen? ⟨g, 0, none⟩ = false := free_of_one h.out
theorem Blk.new (w : World) (t : TypeId) (cs : Array Value) : Blk (w.alloc (.cells cs t)) w.heap.size t cs := ⟨heap_alloc_new w _⟩
theorem Blk.drew (h : Blk w g t cs) : Blk w.drew g t cs := ⟨h.out⟩
theorem Blk.alloc (h : Blk w g t cs) (o : Obj) : Blk (w.alloc o) g t cs := ⟨(Below.heap_alloc w o g h.lt).trans h.out⟩
theorem Blk.set_ {v : Value} (h : Blk w g t #[v]) (u : Value) : Blk (w.setCell ⟨g, 0, none⟩ u) g t #[u] := ⟨one_setCell h.out⟩
theorem Blk.grown {row : Option Nat} (h : Blk w g t cs) (hb : w.grownBy w' row) (hg : some g ≠ row) : Blk w' g t cs := ⟨(hb.block g h.lt hg).trans h.out⟩
theorem Blk.on (h : Blk w g t cs) (hb : Below w.heap.size w w') : Blk w' g t cs := ⟨(hb.block g h.lt).trans h.out⟩
theorem Own.ne {base n c : Nat} {A : Option Addr} {l : List Nat} (h : Own base w A n c l) (hg : Blk w g t cs) (hne : t ≠ 5) : (Value.slice A n c).ownBlock ≠ some g := by
 rcases h.row.2 with ⟨e, _⟩ | ⟨g', cap, cur, e, _, hh, _⟩
 ·rw [e]; simp [Value.ownBlock]
 ·rw [e]
  intro he
  have : g' = g := by simpa [Value.ownBlock] using he
  subst this
  have := hg.out
  rw [hh] at this
  injection this with this
  injection this with _ ht
  exact hne ht.symm
theorem Own.set {base n c : Nat} {A : Option Addr} {l : List Nat} (h : Own base w A n c l) (hg : Blk w g t cs) (hne : t ≠ 5) (u : Value) : Own base (w.setCell ⟨g, 0, none⟩ u) A n c l :=
 ⟨ownsRow_setCell_other h.row (h.ne hg hne) u, by have := h.base; simpa [World.setCell] using this⟩
end

theorem from_run_b (A : Option Addr) (n c k : Nat) (z : Int) (hz : z = k) (hk : k <= n) : ∃ A1, (∀ W, (Instr.slice 90 (.slice A n c) (some (.int .i64 z)) none none).run Tryz.prog W = .ok (.slice A1 (n - k) (c - k)) W) ∧
  ∀ W xs, Row W A n xs -> n <= c -> Row W A1 (n - k) (xs.drop k) := by
 subst hz
 refine ⟨if c = k then A else A.map (·.add k), fun W => ?_, fun W xs h hc => h.cut hk hc⟩
 rw [run_slice_l W 90 A n c (by kernel_rfl) .i64 k (by omega) (by omega)]
 simp [Result.andThen, sliced, go_sem]
end Go.Proofs.YtgnjjlgmlokhmaaGreatDoor
