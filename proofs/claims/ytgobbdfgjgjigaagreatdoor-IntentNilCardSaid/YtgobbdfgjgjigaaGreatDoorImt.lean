/-
  A table of keys' owners in memory: its map, its variable; what a call leaves as it was.
-/
import Derived.Test.YtgobbdfgjgjigaaGreatDoorIma
import Derived.Test.YtgobbdfgjgjigaaGreatDoorKrty
import Derived.Maps.Own
import Derived.Maps.OwnSet
import Derived.StillTailTactics
set_option linter.unusedVariables false
set_option linter.unusedSimpArgs false
set_option maxRecDepth 100000
namespace Go.Proofs.YtgobbdfgjgjigaaGreatDoor
open Go.RowKit
open Go.Maps (Keyed)
/-- Of what was there only the blocks S have turned. -/
structure Only (S : Nat → Prop) (w w' : World) : Prop where
  os : w'.os = w.os
  tape : w'.tape = w.tape
  output : w'.output = w.output
  size : w.heap.size ≤ w'.heap.size
  block : ∀ i, i < w.heap.size → ¬ S i → w'.heap[i]? = w.heap[i]?
section
variable {S T : Nat → Prop} {a b c w w' : World}
theorem Only.self (S : Nat → Prop) (w : World) : Only S w w := ⟨rfl, rfl, rfl, Nat.le_refl _, fun _ _ _ => rfl⟩
theorem Only.trans (h : Only S a b) (k : Only T b c) (hT : ∀ i, T i → S i ∨ a.heap.size ≤ i) : Only S a c :=
  ⟨k.os.trans h.os, k.tape.trans h.tape, k.output.trans h.output, Nat.le_trans h.size k.size, fun i hi hS =>
    (k.block i (Nat.lt_of_lt_of_le hi h.size) (fun t => (hT i t).elim hS (fun h => absurd hi (Nat.not_lt.2 h)))).trans (h.block i hi hS)⟩
theorem only_below (h : Below w.heap.size w w') : Only S w w' := ⟨h.os, h.tape, h.output, h.size, fun i hi _ => h.block i hi⟩
theorem Only.on (h : Only S a b) (k : Below b.heap.size b c) : Only S a c := h.trans (T := fun _ => False) (only_below k) fun _ hf => hf.elim
theorem Only.below {B : Nat} (h : Only S w w') (hB : B ≤ w.heap.size) (hS : ∀ i, S i → B ≤ i) : Below B w w' :=
  ⟨h.os, h.tape, h.output, h.size, fun i hi => h.block i (Nat.lt_of_lt_of_le hi hB) fun s => absurd hi (Nat.not_lt.2 (hS i s))⟩
theorem Only.set {p : Addr} (h : Only S a b) (hp : S p.block ∨ a.heap.size ≤ p.block) (u : Value) : Only S a (b.setCell p u) :=
  ⟨h.os, h.tape, h.output, by simpa [World.setCell] using h.size, fun i hi hS => (Below.heap_setCell b p u i (by
    rintro rfl
    rcases hp with hp | hp
    · exact hS hp
    · omega)).trans (h.block i hi hS)⟩
theorem Only.grown {row : Option Nat} (h : Only S a b) (hg : b.grownBy c row) (hr : ∀ k, row = some k → S k ∨ a.heap.size ≤ k) : Only S a c :=
  h.trans (T := fun i => row = some i) ⟨hg.os, hg.tape, hg.output, hg.size, fun i hi hn => hg.block i hi (fun e => hn e.symm)⟩ fun i hi => hr i hi
theorem Only.alloc (h : Only S a b) (o : Obj) : Only S a (b.alloc o) := h.on ((Below.refl _ _).alloc (Nat.le_refl _) o)
theorem Only.drewN (h : Only S a b) (n : Nat) : Only S a (b.drewN n) := ⟨h.os, h.tape, h.output, h.size, h.block⟩
end
theorem KRow.only {S : Nat → Prop} {w w' : World} {A : Option Addr} {n : Nat} {l : List D.Ky} (h : Shp.Row kS w A n l) (k : Only S w w') (hA : ∀ ad, A = some ad → ¬ S ad.block) : Shp.Row kS w' A n l := ⟨h.len, fun hn => by
  obtain ⟨ad, e, hl, hc⟩ := h.tow hn
  exact ⟨ad, e, Nat.lt_of_lt_of_le hl k.size, fun i x hx => Shp.at_to (hc i x hx) (by rw [block_of_add]; exact k.block _ hl (hA ad e))⟩⟩
noncomputable def kkl (x : D.Ky) : Lit := Classical.choose (key_k x)
theorem kkl_is (x : D.Ky) : keyOf Tryz.prog 30 (.agg (kS.v x)) = some (kkl x) := Classical.choose_spec (key_k x)
theorem kkl_inj {x y : D.Ky} (h : kkl x = kkl y) : x = y := by
  have := law_k.inj (kkl_is x) ((kkl_is y).trans (congrArg some h.symm))
  injection this with this
  exact kS.v_inj this
theorem kkl_key (x : D.Ky) : WideAt.IsKeyLit (kkl x) := law_k.key (kkl_is x)
theorem zero_int (u : World) : (zeroValue 3).run Tryz.prog u = .ok (.int .i64 0) u := by kernel_rfl
/-- A map of owners. -/
structure IAt (w : World) (b : Nat) (s : D.It) : Prop where
  out : ∃ D0 : DataW Unit, w.ownsMap Tryz.prog 30 (plainElem Tryz.prog 3) b s.n D0 ∧ (∀ x, Maps.has D0 (kkl x) = (s.f x).isSome) ∧
    (∀ x, D0.atKey (kkl x) (.lit (.int .i64 0)) = .lit (.int .i64 ((s.f x).getD 0))) ∧ Maps.size D0 = s.n
section
variable {w w' : World} {b n : Nat} {s : D.It} {D0 : DataW Unit}
theorem iown_tight (h : w.ownsMap Tryz.prog 30 (plainElem Tryz.prog 3) b n D0) : w.ownsMap Tryz.prog 30 (plainElem Tryz.prog 3) b (Maps.size D0) D0 := by
  obtain ⟨es, clock, hb, F, hs, hD⟩ := h
  exact ⟨es, clock, hb, F, by rw [hD]; simp [Maps.size, length_sorted], hD⟩
theorem IAt.lt (h : IAt w b s) : b < w.heap.size := by
  obtain ⟨D0, ho, _⟩ := h.out
  exact ho.lt
theorem IAt.tow (h : IAt w b s) (hs : w'.heap[b]? = w.heap[b]?) : IAt w' b s := by
  obtain ⟨D0, ⟨es, clock, hb, r⟩, r'⟩ := h.out
  exact ⟨D0, ⟨es, clock, hs.trans hb, r⟩, r'⟩
theorem IAt.on (h : IAt w b s) (hb : Below w.heap.size w w') : IAt w' b s := h.tow (hb.block _ h.lt)
theorem IAt.drew (h : IAt w b s) : IAt w.drew b s := h.tow rfl
theorem IAt.alloc (h : IAt w b s) (o : Obj) : IAt (w.alloc o) b s := h.on (below_alloc_ _ _)
theorem IAt.no_cells (h : IAt w b s) {g : Nat} {t : TypeId} {cs : Array Value} (hg : Blk w g t cs) : g ≠ b := by
  rintro rfl
  obtain ⟨D, ⟨es, clock, hb, r⟩, r'⟩ := h.out
  rw [hg.out] at hb
  cases hb
theorem imap_new (w : World) : IAt (w.alloc (.map #[] 0)) w.heap.size D.It.zero :=
  ⟨_, World.ownsMap_made _ _ _ _, fun x => rfl, fun x => rfl, rfl⟩
theorem IAt.len (h : IAt w b s) (ty : TypeId) : (Builtin.len_ #[31] ty #[.map (some b)]).run Tryz.prog w = .ok (.int .i64 (s.n : Nat)) w := by
  obtain ⟨D, ho, _, _, hs⟩ := h.out
  rw [ho.len Tryz.underlying31 ty, hs]
theorem IAt.look (h : IAt w b s) (x : D.Ky) : (Instr.lookup 31 (.map (some b)) (.agg (kS.v x)) true).run Tryz.prog w = .ok (.tuple #[.int .i64 ((s.f x).getD 0), .bool (s.f x).isSome]) w := by
  obtain ⟨D, ho, hh, hc, _⟩ := h.out
  obtain ⟨v, ps, hr, hv⟩ := ho.look_ok law_k Tryz.underlying31 (z := .int .i64 0) (zero_int w) (plainElem_int Tryz.underlying3 (by decide)) (kkl_is x)
  obtain ⟨c, rfl, hc', _⟩ := plainElem_int_inv Tryz.underlying3 hv
  rw [hr, hh x]
  rw [hc x] at hc'
  simp only [Prod.mk.injEq, DataW.lit.injEq, Lit.int.injEq, true_and] at hc'
  rw [hc'.1]
theorem IAt.put (h : IAt w b s) (hn : s.n ≤ 100000) (x : D.Ky) {o : Int} (h1 : -9223372036854775808 ≤ o) (h2 : o ≤ 9223372036854775807) : ∃ w', (Instr.mapUpdate 31 (.map (some b)) (.agg (kS.v x)) (.int .i64 o)).run Tryz.prog w = .ok () w' ∧ IAt w' b (s.put x o) ∧ w.grownBy w' (some b) := by
  obtain ⟨D0, ho, hh, hc, hs⟩ := h.out
  obtain ⟨w', hr, ho', hg⟩ := ho.update law_k Tryz.underlying31 (by simp only [maxLen]; omega) (kkl_is x) (plainElem_int (H := Unit) Tryz.underlying3 (WalkArith.wf_i64 ⟨h1, h2⟩))
  have hs' : Maps.size (D0.put (kkl x) (.lit (.int .i64 o))) = (s.put x o).n := by
    rw [Maps.size_put (ho.tidy law_k), hh x, hs]
    unfold D.It.put
    simp only
  refine ⟨w', hr, ⟨_, by rw [← hs']; exact iown_tight ho', fun y => ?_, fun y => ?_, hs'⟩, hg⟩
  · by_cases e : y = x
    · subst e
      rw [Maps.has_put_same ho.isMap (kkl_key y), D.It.put_f]
      rfl
    · rw [Maps.has_put_other (fun e' => e (kkl_inj e')), hh y, D.It.put_o e]
  · by_cases e : y = x
    · subst e
      rw [Maps.atKey_put_same ho.isMap (kkl_key y), D.It.put_f]
      rfl
    · rw [Maps.atKey_put_other (fun e' => e (kkl_inj e')), hc y, D.It.put_o e]
theorem IAt.drop (h : IAt w b s) {x : D.Ky} (hx : (s.f x).isSome = true) (ty : TypeId) : ∃ w', (Builtin.delete_ #[31, 30] ty #[.map (some b), .agg (kS.v x)]).run Tryz.prog w = .ok (.tuple #[]) w' ∧ IAt w' b (s.del x) ∧ w.grownBy w' (some b) := by
  obtain ⟨D0, ho, hh, hc, hs⟩ := h.out
  obtain ⟨w', hr, ho', hg⟩ := ho.drop law_k Tryz.underlying31 (kkl_is x) ty
  have hs' : Maps.size (D0.del (kkl x)) = (s.del x).n := by
    have h1 := Maps.size_del (k := kkl x) (ho.tidy law_k)
    rw [hh x, hs, hx] at h1
    unfold D.It.del
    simp only at h1 ⊢
    simp at h1
    omega
  refine ⟨w', hr, ⟨_, by rw [← hs']; exact iown_tight ho', fun y => ?_, fun y => ?_, hs'⟩, hg.grown⟩
  · by_cases e : y = x
    · subst e
      rw [Maps.has_del_same, D.It.del_f]
      rfl
    · rw [Maps.has_del_other (fun e' => e (kkl_inj e')), hh y, D.It.del_o e]
  · by_cases e : y = x
    · subst e
      rw [Maps.atKey_del_same, D.It.del_f]
      rfl
    · rw [Maps.atKey_del_other (fun e' => e (kkl_inj e')), hc y, D.It.del_o e]
end
/-- A table's variable, and the map behind it. -/
structure TabI (base : Nat) (w : World) (p : Nat) (M : Option Nat) (s : D.It) : Prop where
  blk : Blk w p 33 #[.map M]
  le : base ≤ p
  at_ : ∀ b, M = some b → IAt w b s ∧ base ≤ b
  no : M = none → s = D.It.zero
def Sf (p : Nat) (M : Option Nat) (i : Nat) : Prop := i = p ∨ M = some i
section
variable {base p : Nat} {w w' : World} {M : Option Nat} {s : D.It}
theorem TabI.on (h : TabI base w p M s) (hb : Below w.heap.size w w') : TabI base w' p M s := ⟨h.blk.on hb, h.le, fun b e => ⟨(h.at_ b e).1.on hb, (h.at_ b e).2⟩, h.no⟩
theorem TabI.alloc (h : TabI base w p M s) (o : Obj) : TabI base (w.alloc o) p M s := h.on (below_alloc_ _ _)
theorem TabI.lt (h : TabI base w p M s) : ∀ i, Sf p M i → i < w.heap.size
  | _, .inl e => e ▸ h.blk.lt
  | i, .inr e => (h.at_ i e).1.lt
theorem TabI.ge (h : TabI base w p M s) : ∀ i, Sf p M i → base ≤ i
  | _, .inl e => e ▸ h.le
  | i, .inr e => (h.at_ i e).2
theorem tabi_new (w : World) (base : Nat) (hb : base ≤ w.heap.size) : TabI base (w.alloc (.cells #[.map none] 33)) w.heap.size none D.It.zero :=
  ⟨Blk.new w _ _, hb, fun b e => (by cases e), fun _ => rfl⟩
end
/-- Where the map lies behind a call: where it lay, or in new memory. -/
def Nxt (H : Nat) (M M' : Option Nat) : Prop := M' = M ∨ ∃ b, M' = some b ∧ H ≤ b
theorem Sf.next {p H : Nat} {M M' : Option Nat} (h : Nxt H M M') : ∀ i, Sf p M' i → Sf p M i ∨ H ≤ i
  | _, .inl e => .inl (.inl e)
  | i, .inr e => by
    rcases h with rfl | ⟨b, rfl, hb⟩
    · exact .inl (.inr e)
    · injection e with e
      subst e
      exact .inr hb
end Go.Proofs.YtgobbdfgjgjigaaGreatDoor
