/-
  Words for ranges over functions: what goes on from a world; regions that draw in a fence; append in a fence.
-/
import Derived.Test.YtdolceefbikppaaDoorCxt
import Derived.RangeFuncNested
import Derived.RangeFuncBound
import Derived.RangeFuncCalls
import Derived.RangeFuncLeaves
import Derived.RangeFuncBox
import Derived.RangeFuncStops
import Derived.Shelf.Abstract
import Derived.Shelf.RegionOpen
import Derived.WalkKit
import Derived.OwnWalkIn
import Derived.TacticsInMore
import Derived.LoopNIn
import Derived.LoopIn
import Derived.OrdersIn
import Derived.TacticsIn
set_option linter.unusedVariables false
set_option linter.unusedSimpArgs false
set_option maxRecDepth 100000
namespace Go.Proofs.YtdolceefbikppaaDoor
open Go.RowKit
/-- What goes on from a world, but some of its blocks. -/
structure Ov (n0 : Nat) (X : List Nat) (w W : World) : Prop where
  os : W.os = w.os
  tape : W.tape = w.tape
  output : W.output = w.output
  size : w.heap.size ≤ W.heap.size
  block : ∀ q, q < n0 → q ∉ X → W.heap[q]? = w.heap[q]?
theorem Ov.refl (n0 : Nat) (X : List Nat) (w : World) : Ov n0 X w w := ⟨rfl, rfl, rfl, Nat.le_refl _, fun _ _ _ => rfl⟩
theorem Ov.trans {n0 : Nat} {X : List Nat} {w W V : World} (h : Ov n0 X w W) (k : Ov n0 X W V) : Ov n0 X w V :=
  ⟨k.os.trans h.os, k.tape.trans h.tape, k.output.trans h.output, Nat.le_trans h.size k.size, fun q h1 h2 => (k.block q h1 h2).trans (h.block q h1 h2)⟩
theorem Ov.on {n0 : Nat} {X : List Nat} {w W V : World} (h : Ov n0 X w W) (hn : n0 ≤ w.heap.size) (hb : Below W.heap.size W V) : Ov n0 X w V :=
  ⟨hb.os.trans h.os, hb.tape.trans h.tape, hb.output.trans h.output, Nat.le_trans h.size hb.size, fun q h1 h2 => (hb.block q (by have := h.size; omega)).trans (h.block q h1 h2)⟩
theorem Ov.grown {n0 : Nat} {X : List Nat} {w W V : World} {row : Option Nat} (h : Ov n0 X w W) (hn : n0 ≤ w.heap.size) (hg : W.grownBy V row) (hr : ∀ r, row = some r → n0 ≤ r ∨ r ∈ X) : Ov n0 X w V :=
  ⟨hg.os.trans h.os, hg.tape.trans h.tape, hg.output.trans h.output, Nat.le_trans h.size hg.size, fun q h1 h2 => (hg.block q (by have := h.size; omega) (fun e => by rcases hr q e.symm with c | c; omega; exact h2 c)).trans (h.block q h1 h2)⟩
theorem Ov.set {n0 : Nat} {X : List Nat} {w W : World} (h : Ov n0 X w W) {a : Addr} (ha : a.block ∈ X) (v : Value) : Ov n0 X w (W.setCell a v) :=
  ⟨h.os, h.tape, h.output, by have := h.size; simp [World.setCell]; exact this, fun q h1 h2 => (Below.heap_setCell W a v q (fun e => h2 (by rw [e]; exact ha))).trans (h.block q h1 h2)⟩
theorem Ov.put {n0 : Nat} {X : List Nat} {w W : World} (h : Ov n0 X w W) {l : Nat} (hl : n0 ≤ l) (o : Obj) : Ov n0 X w (W.putObj l o) :=
  ⟨h.os, h.tape, h.output, by have := h.size; simp [World.putObj]; exact this, fun q h1 h2 => (World.putObj_heap_other (by omega)).trans (h.block q h1 h2)⟩
theorem Ov.below {n0 b : Nat} {X : List Nat} {w W : World} (h : Ov n0 X w W) (hb : b ≤ n0) (hx : ∀ x ∈ X, b ≤ x) : Below b w W :=
  ⟨h.os, h.tape, h.output, h.size, fun q hq => h.block q (by omega) (fun c => by have := hx q c; omega)⟩
theorem Ov.own {n0 B : Nat} {X : List Nat} {w : World} (hn : n0 ≤ w.heap.size) (hB : n0 ≤ B) {β : Type} (p : β → Prop) : OwnFrom B (fun (s : β) W => Ov n0 X w W ∧ p s) := fun s W W' row hs hg hr =>
  ⟨hs.1.grown hn hg fun r e => .inl (Nat.le_trans hB (hr r e).1), hs.2⟩
theorem blk_own {B g : Nat} {t : TypeId} {β : Type} (f : β → Array Value) : OwnFrom B (fun (s : β) W => Blk W g t (f s)) := fun s W W' row hs hg hr =>
  hs.grown hg (by intro e'; obtain ⟨_, o, ho, hc⟩ := hr _ e'.symm; rw [hs.out] at ho; injection ho with ho; subst ho; cases hc)
theorem ownFrom_and {β : Type} {B : Nat} {I J : β → World → Prop} (h : OwnFrom B I) (k : OwnFrom B J) : OwnFrom B (fun s W => I s W ∧ J s W) := fun s W W' row hs hg hr => ⟨h s W W' row hs.1 hg hr, k s W W' row hs.2 hg hr⟩
theorem ow_cells {T : TypeId} {sz base n c : Nat} {w : World} {A : Option Addr} {xs : List Value} (h : Ow T sz base w A n c xs) : ∀ (j : Nat) (o : Obj), (Value.slice A n c).ownBlock = some j → w.heap[j]? = some o → o.isCells = true ∧ o.isWalk = false := by
  intro j o hg hj
  rcases h.row.2 with ⟨e2, _⟩ | ⟨g2, cap, cur, e2, _, hh, _⟩
  · rw [e2] at hg; cases hg
  · rw [e2] at hg
    injection hg with hg
    subst hg
    rw [hh] at hj
    injection hj with hj
    subst hj
    exact ⟨rfl, rfl⟩
theorem gappIn {F : Fence} {nF : Nat} {ST T : TypeId} {z : Value} {sz by_ : Nat} (w : World) (hu : Tryd.prog.underlying ST = some (.slice T)) (hi : (Tryd.prog.info? T).map (fun i => (i.zero, i.size, i.bytes)) = some (some z, sz, by_)) (hz : z.cells.size = sz) (hs : 0 < sz) (hby : by_ ≤ 1000)
    {ops : Array Oper} {rest : List Oper} {o : Oper} {a : Act} {Q : Exit → Act → World → Prop} (hgd : o.guard = none) (s x : Operand)
    (hop : o.op = .call { callee := .builtin .append, args := #[s, x], argTypes := #[ST, ST] })
    {base : Nat} {A B : Option Addr} {n c m d : Nat} {l k : List Value} (hes : a.eval s = .slice A n c) (ho : Ow T sz base w A n c l) (hx : a.eval x = .slice B m d) (hr : Rw sz w B m k) (h1 : ∀ u ∈ k, u.oneCell' = true) (h63 : n + m ≤ 1000000)
    (h : ∀ A' c' w', Ow T sz base w' A' (n + m) c' (l ++ k) → w.grownBy w' (Value.slice A n c).ownBlock → wpListIn F nF Tryd.prog ops Q rest (a.put o.dst (.slice A' (n + m) c')) w') : wpListIn F nF Tryd.prog ops Q (o :: rest) a w := by
  obtain ⟨A', c', w', hrun, h2, h3, h4⟩ := run_gapp w hu hi hz hs o.type ho hr h1 h63 hby (d := d)
  refine wpListIn_plain hgd fun K hK => ?_
  unfold Oper.wpIn
  refine ⟨?_, ?_⟩
  · simp [Oper.about, hop, resolve, Target.leads, Sem.run_pure]
  · rw [Oper.semAt_plain F _ _ (by rw [hop]; intro c hc'; cases hc')]
    simp [execOp, hop, resolve, invoke, builtin, hes, hx, hrun, Result.andThen]
    exact hK _ _ (h A' c' w' h2 h3)
theorem rw_shp {α : Type} (S : Shp α) (w : World) (x : α) (T : TypeId) (g : Nat) (hg : g = w.heap.size) : Rw S.n (w.alloc (.cells (S.v x) T)) (some ⟨g, 0, none⟩) 1 (S.cs x) := by
  subst hg
  have := rw_new w S.n T 1 (S.v x) (by rw [Shp.v_size]; omega)
  simpa [Shp.v] using this
theorem ow_own {base B n : Nat} {T : TypeId} {sz : Nat} {W W' : World} {A : Option Addr} {c : Nat} {xs : List Value} {row : Option Nat} (h : Ow T sz base W A n c xs) (hg : W.grownBy W' row) (hr : ∀ r, row = some r → B ≤ r ∧ ∃ o : Obj, W.heap[r]? = some o ∧ o.isCells = false) : Ow T sz base W' A n c xs :=
  h.kept hg.size fun g e => hg.block g (h.lt g e).2 (fun e' => by
    obtain ⟨_, o, ho, hc⟩ := hr g e'.symm
    have := (ow_cells h g o e ho).1
    rw [hc] at this; cases this)
theorem rowsIn_of {P : Program} {row : String} {args : Array Value} {w : World} {R : Value → World → Prop} {n l : Nat} (h : Rows P row args w R) : RowsIn (Fence.wide.inRound l) n P row args w R := fun c cs _ =>
  let ⟨v, w', r, s⟩ := h c cs; ⟨v, w', r, stepsIn_wide.2 s⟩
section
variable {P : Program} {Q : Exit → Act → World → Prop} {n l : Nat}
theorem uponIn_of {o : Oper} {a : Act} {K K' : Act → World → Prop} (hK : ∀ a w, K a w → K' a w) : ∀ {r : Result Next}, o.upon P a K Q r → o.uponIn (Fence.wide.inRound l) n P a K' Q r
  | .ok (.value v) w', h => hK _ _ h
  | .ok .skip w', h => hK _ _ h
  | .ok (.defer d) w', h => hK _ _ h
  | .ok (.enter f args) w', h => ⟨fun e => (by cases e), CallsIn.inRound l (callsIn_wide.2 (Calls.mono h fun e w' h' => by
      cases e with
      | returned v => exact hK _ _ h'
      | panicked c => exact h'
      | outgrown => exact h'))⟩
  | .ok (.row row args) w', h => ⟨fun e => (by cases e), rowsIn_of (Rows.mono h fun v w' h' => hK _ _ h')⟩
  | .halt (.panic v) w', h => h
theorem wpOpIn_of {ops : Array Oper} {i : Nat} {a : Act} {w : World} {K K' : Act → World → Prop} (hQ : ¬ LetsOut Q) (hd : ∀ o : Oper, ops[i]? = some o → ∀ c, o.op ≠ Op.defer c) (hK : ∀ a w, K a w → K' a w) (h : wpOp P ops Q i K a w) : wpOpIn (Fence.wide.inRound l) n P ops Q i K' a w := by
  unfold wpOp at h
  unfold wpOpIn
  cases ho : ops[i]? with
  | none => rw [ho] at h; exact hK _ _ h
  | some o =>
    rw [ho] at h
    simp only at h ⊢
    by_cases hw : Region.wanted o (yielded ops a.tmps) = true
    · rw [if_pos hw] at h ⊢
      rcases h with h | ⟨_, h⟩
      · refine ⟨fun _ _ => trivial, ?_⟩
        rw [Oper.semAt_eq _ _ _ (hd o ho)]
        exact uponIn_of hK h
      · exact absurd h hQ
    · rw [if_neg hw] at h ⊢
      exact ⟨fun _ _ => trivial, hK _ _ h⟩
theorem wpAnyIn_of {ops : Array Oper} {md : Region.Mode} (hQ : ¬ LetsOut Q) (hd : ∀ (i : Nat) (o : Oper), ops[i]? = some o → ∀ c, o.op ≠ Op.defer c) : ∀ (fuel : Nat) (listed : Array Bool) (a : Act) (w : World), wpAny P md ops Q fuel listed a w → wpAnyIn (Fence.wide.inRound l) n P md ops Q fuel listed a w
  | 0, _, _, _, h => h
  | fuel + 1, listed, _, _, h => ⟨h.1, fun i hi => wpOpIn_of hQ (hd i) (fun a w => wpAnyIn_of hQ hd fuel _ a w) (h.2 i hi)⟩
def noDefer (ops : Array Oper) : Bool := ops.toList.all fun o => match o.op with | .defer _ => false | _ => true
theorem noDefer_spec {ops : Array Oper} (h : noDefer ops = true) : ∀ (i : Nat) (o : Oper), ops[i]? = some o → ∀ c, o.op ≠ Op.defer c := by
  intro i o ho c e
  have := List.all_eq_true.1 h o (by have := Array.mem_of_getElem? ho; simpa using this)
  rw [e] at this
  cases this
/-- Where only one way out is asked for, and what follows is told of it. -/
def Nrm (R : Act → World → Prop) : Exit → Act → World → Prop
  | .normal, a, w => R a w
  | _, _, _ => False
theorem nrm_out {R : Act → World → Prop} : ¬ LetsOut (Nrm R) := fun ⟨_, _, h⟩ => h
theorem region_round {ops : Array Oper} {S : World → Prop} {id : Nat} {a : Act} {w : World} {R : Act → World → Prop} (hm : P.follows .mixedOrders = true) (hd : noDefer ops = true) (hS : S w.drew)
    (h : S w.drew → wpAnyH P .any ops (Nrm R) S ops.size (Array.replicate ops.size false) a w.drew) (hR : ∀ a' w', R a' w' → Q .normal a' w') : (Code.region id ops true).wpIn (Fence.wide.inRound l) n P Q a w := by
  refine wpIn_mono (Q := Nrm R) (wpIn_region_any hm (wpAnyIn_of nrm_out (noDefer_spec hd) _ _ _ _ (wpAny_of_held _ _ _ _ (h hS)))) ?_
  intro e a' w' hq
  cases e with
  | normal => exact hR _ _ hq
  | exit id => exact hq.elim
  | goto l => exact hq.elim
  | ret => exact hq.elim
  | panic ch => exact hq.elim
  | outgrown => exact hq.elim
end
theorem region_wide {P : Program} {Q : Exit → Act → World → Prop} {n : Nat} {ops : Array Oper} {S : World → Prop} {id : Nat} {a : Act} {w : World} {R : Act → World → Prop} (hm : P.follows .mixedOrders = true) (hS : S w.drew)
    (h : S w.drew → wpAnyH P .any ops (Nrm R) S ops.size (Array.replicate ops.size false) a w.drew) (hR : ∀ a' w', R a' w' → Q .normal a' w') : (Code.region id ops true).wpIn Fence.wide n P Q a w := by
  refine wpIn_mono (Q := Nrm R) (wpIn_wide.2 (wp_region_held_drew hm hS h)) ?_
  intro e a' w' hq
  cases e with
  | normal => exact hR _ _ hq
  | exit id => exact hq.elim
  | goto l => exact hq.elim
  | ret => exact hq.elim
  | panic ch => exact hq.elim
  | outgrown => exact hq.elim
/-- What a round that goes on keeps: blocks of before but some. -/
structure Kq (n0 : Nat) (X : List Nat) (W W' : World) : Prop where
  sz : W.heap.size ≤ W'.heap.size
  old : ∀ g : Nat, g < n0 → g ∉ X → W'.heap[g]? = W.heap[g]?
theorem Kq.trans {n0 : Nat} {X : List Nat} {A B C : World} (h : Kq n0 X A B) (k : Kq n0 X B C) : Kq n0 X A C :=
  ⟨Nat.le_trans h.sz k.sz, fun g h1 h2 => (k.old g h1 h2).trans (h.old g h1 h2)⟩
theorem Kq.refl (n0 : Nat) (X : List Nat) (W : World) : Kq n0 X W W := ⟨Nat.le_refl _, fun _ _ _ => rfl⟩
theorem Kq.put {n0 : Nat} {X : List Nat} (W : World) (l : Nat) (o o' : Obj) (hl : n0 ≤ l) (h : W.heap[l]? = some o) (ho : o.isCells = false) : Kq n0 X W (W.putObj l o') :=
  ⟨by simp [World.putObj], fun g hg _ => World.putObj_heap_other (by omega)⟩
theorem Kq.below {n0 : Nat} {X : List Nat} {W W' : World} (hb : Below W.heap.size W W') (hn : n0 ≤ W.heap.size) : Kq n0 X W W' :=
  ⟨hb.size, fun g hg _ => hb.block g (by omega)⟩
theorem Kq.set {n0 : Nat} {X : List Nat} (W : World) (g : Nat) (o : Nat) (v : Value) (hx : g ∈ X) : Kq n0 X W (W.setCell ⟨g, o, none⟩ v) :=
  ⟨by simp [World.setCell], fun q _ hq => Below.heap_setCell W ⟨g, o, none⟩ v q (fun e => hq (by subst e; exact hx))⟩
theorem Kq.grown {n0 : Nat} {X : List Nat} {W W' : World} {row : Option Nat} (hn : n0 ≤ W.heap.size) (hg : W.grownBy W' row) (hr : ∀ r, row = some r → n0 ≤ r) : Kq n0 X W W' :=
  ⟨hg.size, fun g h1 h2 => hg.block g (by omega) (fun e => by have := hr g e.symm; omega)⟩
theorem grown_none {W W' : World} (h : Below W.heap.size W W') : W.grownBy W' none := ⟨h.os, h.tape, h.output, h.size, fun k hk _ => h.block k hk⟩
theorem u64_under : Tryd.prog.underlying 52 = some (.slice 23) := by kernel_rfl
theorem u64_info : (Tryd.prog.info? 23).map (fun i => (i.zero, i.size, i.bytes)) = some (some (.int .u64 0), 1, 8) := by kernel_rfl
end Go.Proofs.YtdolceefbikppaaDoor
