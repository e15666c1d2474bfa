/-
  The law on bytes: what holds in memory between two records.
-/
import Derived.Test.YtelifoagnheioaaRbm
set_option linter.unusedVariables false
set_option linter.unusedSimpArgs false
set_option maxRecDepth 100000
namespace Go.Proofs.Ytelifoagnheioaa
open Go.RowKit

structure Lr (w : World) (L : List D.Rc) (n : Nat) (X : Option Addr) (cx : Nat) (B : Option Addr) (j d : Nat) (K : List Nat) (lb : List Nat) (W : World) : Prop where
  b : Below w.heap.size w W
  x : Ow 28 9 w.heap.size W X n cx (rS.rcs L)
  y : Own w.heap.size W B j d lb
  k : Blk W w.heap.size 24 (kcs K)
section
variable {w W W' W'' : World} {L : List D.Rc} {n : Nat} {X : Option Addr} {cx : Nat} {B : Option Addr} {j d : Nat} {K lb : List Nat} {p : Nat} {r : D.Rc}
theorem Lr.on (h : Lr w L n X cx B j d K lb W) (k : Below W.heap.size W W') : Lr w L n X cx B j d K lb W' := ⟨h.b.trans (k.mono h.b.size), h.x.on k, h.y.more k, h.k.on k⟩
/-- A record more in the list. -/
theorem Lr.addX {X' : Option Addr} {cx' : Nat} (h : Lr w L n X cx B j d K lb W) (hp : RB W' p r) (hlt : W.heap.size ≤ p) (hb : Below W.heap.size W W') (hg : W'.grownBy W'' (Value.slice X n cx).ownBlock) (ho : Ow 28 9 w.heap.size W'' X' (n + 1) cx' (rS.rcs L ++ rS.rcs [r])) :
    Lr w (L ++ [r]) (n + 1) X' cx' B j d K lb W'' ∧ RB W'' p r := by
  have h' := h.on hb
  have hbk : ∀ i, i < W'.heap.size → (Value.slice X n cx).ownBlock ≠ some i → W''.heap[i]? = W'.heap[i]? := fun i hi hne => hg.block i hi (fun e => hne e.symm)
  refine ⟨⟨?_, by rw [rS.rcs_app]; exact ho, own_kept h'.y hg.size fun g hg' => hbk g (h'.y.row.lt g hg').2 fun e => own_ow h'.x h'.y (by decide) g e hg', ⟨(hbk _ h'.k.lt (ow_ne h'.x h'.k (by decide))).trans h'.k.out⟩⟩, ⟨(hbk _ hp.lt fun e => ?_).trans hp.out⟩⟩
  · exact h'.b.grown hg h'.b.size fun k hk => h'.x.block_le k hk
  · have := (h.x.lt p e).2
    omega
/-- Bytes more. -/
theorem Lr.addY {B' : Option Addr} {m d' : Nat} {k : List Nat} (h : Lr w L n X cx B j d K lb W) (hp : RB W p r) (hb : Below W.heap.size W W') (hg : W'.grownBy W'' (Value.slice B j d).ownBlock) (ho : Own w.heap.size W'' B' (j + m) d' (lb ++ k)) :
    Lr w L n X cx B' (j + m) d' K (lb ++ k) W'' ∧ RB W'' p r := by
  have h' := h.on hb
  have hp' := hp.on hb
  have hbk : ∀ i, i < W'.heap.size → (Value.slice B j d).ownBlock ≠ some i → W''.heap[i]? = W'.heap[i]? := fun i hi hne => hg.block i hi (fun e => hne e.symm)
  refine ⟨⟨fin_grown h'.b h'.y (Nat.le_refl _) hg, h'.x.kept hg.size fun g hg' => hbk g (h'.x.lt g hg').2 fun e => own_ow h'.x h'.y (by decide) g hg' e, ho, ⟨(hbk _ h'.k.lt (h'.y.ne h'.k (by decide))).trans h'.k.out⟩⟩, ⟨(hbk _ hp'.lt (h'.y.ne hp' (by decide))).trans hp'.out⟩⟩
/-- One more of a kind. -/
theorem Lr.addK (h : Lr w L n X cx B j d K lb W) {q : Nat} (hq : q < 7) : Lr w L n X cx B j d (K ++ [q]) lb (W.setCell ⟨w.heap.size, q, none⟩ (.int .i64 ((D.cnt K q : Nat) + 1 : Int))) := by
  have hs : (W.setCell ⟨w.heap.size, q, none⟩ (.int .i64 ((D.cnt K q : Nat) + 1 : Int))).heap.size = W.heap.size := by simp [World.setCell]
  have far : ∀ g, g ≠ w.heap.size → (W.setCell ⟨w.heap.size, q, none⟩ (.int .i64 ((D.cnt K q : Nat) + 1 : Int))).heap[g]? = W.heap[g]? := fun g hne => Below.heap_setCell W ⟨w.heap.size, q, none⟩ _ g (by simpa using hne)
  refine ⟨below_set h.b (by simp) _, h.x.kept (by rw [hs]; exact Nat.le_refl _) fun g hg => far g fun e => ow_ne h.x h.k (by decide) (e ▸ hg), own_kept h.y (by rw [hs]; exact Nat.le_refl _) fun g hg => far g fun e => h.y.ne h.k (by decide) (e ▸ hg), ?_⟩
  have := h.k.put q (.int .i64 ((D.cnt K q : Nat) + 1 : Int))
  rw [kcs_put hq] at this
  exact this
end
end Go.Proofs.Ytelifoagnheioaa
