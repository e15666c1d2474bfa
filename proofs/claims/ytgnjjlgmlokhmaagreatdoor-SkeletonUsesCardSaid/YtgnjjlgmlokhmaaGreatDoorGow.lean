import Derived.Test.YtgnjjlgmlokhmaaGreatDoorMem
set_option linter.unusedVariables false
set_option linter.unusedSimpArgs false
set_option maxRecDepth 100000
namespace Go.Proofs.YtgnjjlgmlokhmaaGreatDoor
open Go.RowKit

structure Rw (sz : Nat) (w : World) (A : Option Addr) (n : Nat) (xs : List Value) : Prop where
 len : xs.length = n * sz
 tow : 0 < n -> ∃ ad, A = some ad ∧ ad.block < w.heap.size ∧ ∀ j u, xs[j]? = some u -> w.cell? (ad.add j) = some u
section
variable {sz : Nat} {w w' : World} {n : Nat} {A : Option Addr} {xs : List Value}
theorem Rw.nil (sz : Nat) (w : World) (A : Option Addr) : Rw sz w A 0 [] := ⟨by simp, fun h => absurd h (by omega)⟩
theorem Rw.kept (h : Rw sz w A n xs) (hs : w.heap.size <= w'.heap.size) (hk : ∀ ad, A = some ad -> w'.heap[ad.block]? = w.heap[ad.block]?) : Rw sz w' A n xs := ⟨h.len, fun hn => by
 obtain ⟨ad, e, hl, hc⟩ := h.tow hn
 exact ⟨ad, e, Nat.lt_of_lt_of_le hl hs, fun j u hu => (World.cell?_of_block (w := w) (by rw [block_of_add]; exact hk ad e)).trans (hc j u hu)⟩⟩
theorem Rw.on (h : Rw sz w A n xs) (hb : Below w.heap.size w w') : Rw sz w' A n xs := ⟨h.len, fun hn => by
 obtain ⟨ad, e, hl, hc⟩ := h.tow hn
 exact ⟨ad, e, Nat.lt_of_lt_of_le hl hb.size, fun j u hu => (hb.cell (p := ad.add j) (by rw [block_of_add]; exact hl)).trans (hc j u hu)⟩⟩
theorem Rw.alloc (h : Rw sz w A n xs) (o : Obj) : Rw sz (w.alloc o) A n xs := h.on ((Below.refl _ _).alloc (Nat.le_refl _) o)
theorem Rw.drewN (h : Rw sz w A n xs) (k : Nat) : Rw sz (w.drewN k) A n xs := h.on ⟨rfl, rfl, rfl, Nat.le_refl _, fun _ _ => rfl⟩
theorem Rw.cell {k : Nat} {u : Value} (h : Rw sz w A n xs) (hu : xs[k]? = some u) : ∃ ad, A = some ad ∧ ad.block < w.heap.size ∧ w.cell? (ad.add k) = some u := by
 have hk : k < xs.length := (List.getElem?_eq_some_iff.1 hu).1
 have hn : 0 < n := by
  rcases Nat.eq_zero_or_pos n with h0 | h0
  ·rw [h.len, h0, Nat.zero_mul] at hk; omega
  ·exact h0
 obtain ⟨ad, e, hl, hc⟩ := h.tow hn
 exact ⟨ad, e, hl, hc k u hu⟩
theorem rw_new (w : World) (sz : Nat) (T : TypeId) (n : Nat) (cs : Array Value) (hl : cs.size = n * sz) : Rw sz (w.alloc (.cells cs T)) (some ⟨w.heap.size, 0, none⟩) n cs.toList :=
 ⟨by simpa using hl, fun _ => ⟨_, rfl, by simp, fun j u hu => World.news_of_block (heap_alloc_new w _) j u hu⟩⟩
end
structure Ow (T : TypeId) (sz base : Nat) (w : World) (A : Option Addr) (n c : Nat) (xs : List Value) : Prop where
 row : w.ownsRow base T sz (.slice A n c) n xs
 base : base <= w.heap.size
section
variable {T : TypeId} {sz base n c : Nat} {w w' : World} {A : Option Addr} {xs : List Value}
theorem Ow.len (h : Ow T sz base w A n c xs) : xs.length = n * sz := h.row.1
theorem Ow.cap (h : Ow T sz base w A n c xs) : n <= c ∧ c <= maxLen := by
 rcases h.row.2 with ⟨e, h0⟩ | ⟨g, cap, cur, e, _, _, h1, h2, _⟩
 ·injection e with _ _ e2
  exact ⟨by omega, by rw [e2]; exact Nat.zero_le _⟩
 ·injection e with _ _ e2
  subst e2
  exact ⟨h1, h2⟩
theorem Ow.to_row (h : Ow T sz base w A n c xs) : Rw sz w A n xs :=
 ⟨h.len, fun hn => by
  obtain ⟨g, cap, e, _, hlt⟩ := h.row.form hn
  have hA : A = some ⟨g, 0, none⟩ := by injection e
  subst hA
  exact ⟨_, rfl, hlt, h.row.cells (g := g) rfl⟩⟩
theorem Ow.nil (T : TypeId) (sz : Nat) (h : base <= w.heap.size) : Ow T sz base w none 0 0 [] := ⟨World.ownsRow_nil _ _ _ _, h⟩
theorem Ow.kept (h : Ow T sz base w A n c xs) (hs : w.heap.size <= w'.heap.size) (hk : ∀ g, (Value.slice A n c).ownBlock = some g -> w'.heap[g]? = w.heap[g]?) : Ow T sz base w' A n c xs := by
 refine ⟨⟨h.row.1, ?_⟩, Nat.le_trans h.base hs⟩
 rcases h.row.2 with hn | ⟨g, cap, cur, e, hg, hh, r⟩
 ·exact .inl hn
 ·refine .inr ⟨g, cap, cur, e, hg, ?_, r⟩
  rw [hk g (by rw [e]; rfl)]
  exact hh
theorem Ow.lt (h : Ow T sz base w A n c xs) : ∀ k, (Value.slice A n c).ownBlock = some k -> base <= k ∧ k < w.heap.size := h.row.lt
theorem Ow.on (h : Ow T sz base w A n c xs) (hb : Below w.heap.size w w') : Ow T sz base w' A n c xs := h.kept hb.size fun g hg => hb.block g (h.lt g hg).2
theorem Ow.alloc (h : Ow T sz base w A n c xs) (o : Obj) : Ow T sz base (w.alloc o) A n c xs := h.on ((Below.refl _ _).alloc (Nat.le_refl _) o)
theorem Ow.block_le (h : Ow T sz base w A n c xs) : ∀ k, (Value.slice A n c).ownBlock = some k -> base <= k := fun k hk => (h.lt k hk).1
end
section
variable {T ST : TypeId} {sz by_ : Nat} {z : Value} (w : World)
theorem run_gapp_nil (hu : Tryz.prog.underlying ST = some (.slice T)) (hi : (Tryz.prog.info? T).map (fun i => (i.zero, i.size, i.bytes)) = some (some z, sz, by_)) (base : Nat) (ty : TypeId) (v : Value) (n : Nat) (xs : List Value) (hown : w.ownsRow base T sz v n xs) (c : Nat) :
  (Builtin.append_ #[ST, ST] ty #[v, .slice none 0 c]).run Tryz.prog w = .ok v w := by
 obtain ⟨i, hi, _, _, _⟩ := info_parts hi
 rcases hown.2 with ⟨rfl, rfl⟩ | ⟨g, cap, cur, rfl, _, _, hnc, _⟩
 ·simp [Builtin.append_, run_underlying hu, sizeOf, typeInfo, hi, Builtin.lenOf, Builtin.firstCells]
 ·simp [Builtin.append_, run_underlying hu, sizeOf, typeInfo, hi, Builtin.lenOf, Builtin.firstCells, hnc, storeCells]
theorem run_gapp (hu : Tryz.prog.underlying ST = some (.slice T)) (hi : (Tryz.prog.info? T).map (fun i => (i.zero, i.size, i.bytes)) = some (some z, sz, by_)) (hz : z.cells.size = sz) (hs : 0 < sz)
  {base : Nat} {A B : Option Addr} {n c m d : Nat} {l k : List Value} (ty : TypeId) (ho : Ow T sz base w A n c l) (hr : Rw sz w B m k) (h1 : ∀ u ∈ k, u.oneCell' = true) (h63 : n + m <= 1000000) (hby : by_ <= 1000) :
  ∃ A' c' w', (Builtin.append_ #[ST, ST] ty #[.slice A n c, .slice B m d]).run Tryz.prog w = .ok (.slice A' (n + m) c') w' ∧
   Ow T sz base w' A' (n + m) c' (l ++ k) ∧ w.grownBy w' (Value.slice A n c).ownBlock ∧ ((Value.slice A' (n + m) c').ownBlock = (Value.slice A n c).ownBlock ∨ (Value.slice A' (n + m) c').ownBlock = some w.heap.size) := by
 have hi' := hi
 obtain ⟨i, hi, hz0, hz1, hz2⟩ := info_parts hi
 rcases B with _ | ad
 ·have hm : m = 0 := by
   rcases Nat.eq_zero_or_pos m with h0 | h0
   ·exact h0
   ·obtain ⟨ad, h, _⟩ := hr.tow h0
    cases h
  subst hm
  have hk : k = [] := List.eq_nil_of_length_eq_zero (by have := hr.len; rwa [Nat.zero_mul] at this)
  subst hk
  exact ⟨A, c, w, run_gapp_nil w hu hi' base ty _ _ _ ho.row d, by simpa using ho, World.grownBy.refl w _, .inl rfl⟩
 ·have hc : ∀ j u, k[j]? = some u -> w.cell? (ad.add j) = some u := by
   intro j u hu
   obtain ⟨ad', e, _, hc⟩ := hr.cell hu
   injection e with e
   subst e
   exact hc
  have hbytes : (n + m) * by_ <= 140737488355328 := Nat.le_trans (Nat.mul_le_mul h63 hby) (by decide)
  obtain ⟨v', w', hrun, h2, h3, _, h5⟩ := run_append_own_at (P := Tryz.prog) w base ST ty T i _ sz by_ hu hi hz0 hz1 hz2 hz hs _ n l ho.row ad m d k hr.len hc h1 (by simp only [maxLen]; omega) hbytes ho.base
  have hs : ∃ A' c', v' = .slice A' (n + m) c' := by
   rcases h2.2 with ⟨rfl, h0⟩ | ⟨g, cap, _, rfl, _⟩
   ·exact ⟨none, 0, by rw [h0]⟩
   ·exact ⟨_, _, rfl⟩
  obtain ⟨A', c', rfl⟩ := hs
  exact ⟨A', c', w', hrun, ⟨h2, Nat.le_trans ho.base h3.size⟩, h3, h5⟩
theorem gapp (hu : Tryz.prog.underlying ST = some (.slice T)) (hi : (Tryz.prog.info? T).map (fun i => (i.zero, i.size, i.bytes)) = some (some z, sz, by_)) (hz : z.cells.size = sz) (hs : 0 < sz) (hby : by_ <= 1000)
  {ops : Array Oper} {rest : List Oper} {o : Oper} {a : Act} {Q : Exit -> Act -> World -> Prop} (hgd : o.guard = none) (s x : Operand)
  (hop : o.op = .call { callee := .builtin .append, args := #[s, x], argTypes := #[ST, ST] })
  {base : Nat} {A B : Option Addr} {n c m d : Nat} {l k : List Value} (hes : a.eval s = .slice A n c) (ho : Ow T sz base w A n c l) (hx : a.eval x = .slice B m d) (hr : Rw sz w B m k) (h1 : ∀ u ∈ k, u.oneCell' = true) (h63 : n + m <= 1000000)
  (h : ∀ A' c' w', Ow T sz base w' A' (n + m) c' (l ++ k) -> w.grownBy w' (Value.slice A n c).ownBlock -> ((Value.slice A' (n + m) c').ownBlock = (Value.slice A n c).ownBlock ∨ (Value.slice A' (n + m) c').ownBlock = some w.heap.size) ->
   wpList Tryz.prog ops Q rest (a.put o.dst (.slice A' (n + m) c')) w') : wpList Tryz.prog ops Q (o :: rest) a w := by
 obtain ⟨A', c', w', hrun, h2, h3, h4⟩ := run_gapp w hu hi hz hs o.type ho hr h1 h63 hby (d := d)
 refine wpList_plain hgd fun K hK => ?_
 unfold Oper.wp execOp
 simp only [hop, resolve, invoke, builtin, Sem.run_bind, Sem.run_pure, Result.andThen_ok, List.map_toArray, List.map_cons, List.map_nil, hes, hx, hrun]
 exact hK _ _ (h A' c' w' h2 h3 h4)
end
end Go.Proofs.YtgnjjlgmlokhmaaGreatDoor
