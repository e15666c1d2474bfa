import Derived.Test.YtgnjjlgmlokhmaaGreatDoorRow
import Derived.Test.YtgnjjlgmlokhmaaGreatDoorARow
import Derived.Laws.CopyRow
set_option linter.unusedVariables false
set_option linter.unusedSimpArgs false
set_option linter.unusedSectionVars false
set_option maxRecDepth 100000
namespace Go.Proofs.YtgnjjlgmlokhmaaGreatDoor
open Go.RowKit

structure Shp (α : Type) where
 cs : α -> List Value
 n : Nat
 pos : 0 < n
 len : ∀ x, (cs x).length = n
 inj : ∀ {x y}, cs x = cs y -> x = y
 one : ∀ x, ∀ u ∈ cs x, u.oneCell' = true
namespace Shp
variable {α : Type} (S : Shp α)
def v (x : α) : Array Value := (S.cs x).toArray
theorem v_size (x : α) : (S.v x).size = S.n := by simp [v, S.len]
theorem v_one (x : α) : (S.v x).all (·.oneCell') = true := all_oneCell_toArray (S.one x)
theorem v_inj {x y : α} (h : S.v x = S.v y) : x = y := S.inj (by simpa [v] using h)
def At (w : World) (a : Addr) (x : α) : Prop := ∀ j u, (S.cs x)[j]? = some u -> w.cell? (a.add j) = some u
theorem at_one {w : World} {a : Addr} {x y : α} (h : S.At w a x) (k : S.At w a y) : x = y := by
 refine S.inj (List.ext_getElem? fun j => ?_)
 by_cases hj : j < S.n
 ·have e1 : (S.cs x)[j]? = some ((S.cs x)[j]'(by rw [S.len]; exact hj)) := List.getElem?_eq_getElem _
  have e2 : (S.cs y)[j]? = some ((S.cs y)[j]'(by rw [S.len]; exact hj)) := List.getElem?_eq_getElem _
  have := (h j _ e1).symm.trans (k j _ e2)
  rw [e1, e2, this]
 ·rw [List.getElem?_eq_none (by rw [S.len]; omega), List.getElem?_eq_none (by rw [S.len]; omega)]
open Classical in
noncomputable def rd (w : World) (a : Addr) : Option α := if h : ∃ x, S.At w a x then some (Classical.choose h) else none
variable {S}
theorem rd_of {w : World} {a : Addr} {x : α} (h : S.At w a x) : S.rd w a = some x := by
 have hx : ∃ x, S.At w a x := ⟨x, h⟩
 rw [rd, dif_pos hx, S.at_one (Classical.choose_spec hx) h]
theorem at_of {w : World} {a : Addr} {x : α} (h : S.rd w a = some x) : S.At w a x := by
 unfold rd at h
 split at h
 ·rename_i hx
  injection h with h
  rw [<- h]
  exact Classical.choose_spec hx
 ·cases h
theorem at_to {w w' : World} {a : Addr} {x : α} (h : S.At w a x) (hk : w'.heap[a.block]? = w.heap[a.block]?) : S.At w' a x := fun j u hu =>
 (World.cell?_of_block (w := w) (by rw [block_of_add]; exact hk)).trans (h j u hu)
theorem rd_to {w w' : World} {a : Addr} (hk : w'.heap[a.block]? = w.heap[a.block]?) : S.rd w' a = S.rd w a := by
 by_cases h : ∃ x, S.At w a x
 ·obtain ⟨x, hx⟩ := h
  rw [rd_of hx, rd_of (at_to hx hk)]
 ·have h' : ¬ ∃ x, S.At w' a x := fun ⟨x, hx⟩ => h ⟨x, at_to hx hk.symm⟩
  rw [rd, rd, dif_neg h, dif_neg h']
theorem rd_lt {w : World} {a : Addr} {x : α} (h : S.rd w a = some x) : a.block < w.heap.size := by
 have e1 : (S.cs x)[0]? = some ((S.cs x)[0]'(by rw [S.len]; exact S.pos)) := List.getElem?_eq_getElem _
 have := World.block_lt_of_cell? w _ (at_of h 0 _ e1)
 rwa [block_of_add] at this
theorem rd_on {w w' : World} {a : Addr} {x : α} (h : S.rd w a = some x) (hb : Below w.heap.size w w') : S.rd w' a = some x := (rd_to (hb.block _ (rd_lt h))).trans h
theorem rd_blk {w : World} {g : Nat} {t : TypeId} {x : α} (h : Blk w g t (S.v x)) : S.rd w ⟨g, 0, none⟩ = some x := rd_of fun j u hu => by
 rw [World.news_of_block h.out j u]
 simpa [v] using hu
theorem rd_new (w : World) (n : Nat) (t : TypeId) (x : α) (h : n = w.heap.size) : S.rd (w.alloc (.cells (S.v x) t)) ⟨n, 0, none⟩ = some x := by
 subst h
 exact rd_blk (Blk.new w t (S.v x))
theorem rd_old (w : World) (a : Addr) (o : Obj) (h : a.block < w.heap.size) : S.rd (w.alloc o) a = S.rd w a := rd_to (Below.heap_alloc w o _ h)
theorem rd_drew (w : World) (a : Addr) : S.rd w.drew a = S.rd w a := rd_to rfl
theorem rd_drewN (w : World) (a : Addr) (n : Nat) : S.rd (w.drewN n) a = S.rd w a := rd_to rfl
theorem loadVar_of {w : World} {a : Addr} {x : α} {t : TypeId} (h1 : ∀ w, (isAgg t).run Tryz.prog w = .ok true w) (h2 : ∀ w, (sizeOf t).run Tryz.prog w = .ok S.n w) (h : S.At w a x) : (loadVar t a).run Tryz.prog w = .ok (.agg (S.v x)) w := by
 have hl := run_loadCells_list (P := Tryz.prog) w a (S.cs x) h
 rw [S.len] at hl
 simp only [Sem.run_bind, Sem.run_pure, Result.andThen_ok, loadVar, h1, h2, if_true, hl]
 rfl
def Ten (n : Nat) (w : World) (g : Nat) : Prop := ∃ t cs, Blk w g t cs ∧ cs.size = n
open Classical in
noncomputable def tn (n : Nat) (w : World) (g : Nat) : Bool := decide (Ten n w g)
theorem tn_of {n : Nat} {w : World} {g : Nat} {t : TypeId} {cs : Array Value} (h : Blk w g t cs) (hs : cs.size = n) : tn n w g = true := by
 classical
 exact decide_eq_true (show Ten n w g from ⟨t, cs, h, hs⟩)
theorem tn_blk {n : Nat} {w : World} {g : Nat} (h : tn n w g = true) : ∃ t cs, Blk w g t cs ∧ cs.size = n := by
 classical
 exact of_decide_eq_true (p := Ten n w g) h
theorem tn_lt {n : Nat} {w : World} {g : Nat} (h : tn n w g = true) : g < w.heap.size := by
 obtain ⟨t, cs, hb, _⟩ := tn_blk h
 exact hb.lt
theorem tn_to {n : Nat} {w w' : World} {g : Nat} (hk : w'.heap[g]? = w.heap[g]?) : tn n w' g = tn n w g := by
 unfold tn
 congr 1
 exact propext ⟨fun ⟨t, cs, h, hs⟩ => ⟨t, cs, ⟨hk.symm.trans h.out⟩, hs⟩, fun ⟨t, cs, h, hs⟩ => ⟨t, cs, ⟨hk.trans h.out⟩, hs⟩⟩
theorem tn_on {n : Nat} {w w' : World} {g : Nat} (h : tn n w g = true) (hb : Below w.heap.size w w') : tn n w' g = true := (tn_to (hb.block _ (tn_lt h))).trans h
theorem tn_new (n : Nat) (w : World) (g : Nat) (t : TypeId) (cs : Array Value) (h : g = w.heap.size) (hs : cs.size = n) : tn n (w.alloc (.cells cs t)) g = true := by
 subst h
 exact tn_of (Blk.new w t cs) hs
theorem tn_old (n : Nat) (w : World) (g : Nat) (o : Obj) (h : g < w.heap.size) : tn n (w.alloc o) g = tn n w g := tn_to (Below.heap_alloc w o _ h)
theorem tn_drew (n : Nat) (w : World) (g : Nat) : tn n w.drew g = tn n w g := tn_to rfl
theorem tn_drewN (n : Nat) (w : World) (g k : Nat) : tn n (w.drewN k) g = tn n w g := tn_to rfl
theorem rd_set (w : World) (g : Nat) (x : α) (h : tn S.n w g = true) : S.rd (w.setRow g (S.v x)) ⟨g, 0, none⟩ = some x := by
 obtain ⟨t, cs, hb, hs⟩ := tn_blk h
 have := hb.out
 exact rd_blk (t := t) ⟨by simp [World.setRow, Array.getElem?_modify, this]⟩
def rcs (S : Shp α) (l : List α) : List Value := l.flatMap S.cs
theorem rcs_cons (x : α) (l : List α) : S.rcs (x :: l) = S.cs x ++ S.rcs l := rfl
theorem rcs_app (l k : List α) : S.rcs (l ++ k) = S.rcs l ++ S.rcs k := by simp [rcs]
theorem rcs_len (l : List α) : (S.rcs l).length = l.length * S.n := by
 induction l with
 | nil => simp [rcs]
 | cons x l ih => rw [rcs_cons, List.length_append, ih, S.len, List.length_cons, Nat.add_mul, Nat.one_mul, Nat.add_comm]
theorem rcs_one (l : List α) : ∀ u ∈ S.rcs l, u.oneCell' = true := by
 intro u hu
 obtain ⟨x, _, hx⟩ := List.mem_flatMap.1 hu
 exact S.one x u hx
theorem rcs_at : ∀ {l : List α} {i : Nat} {x : α}, l[i]? = some x -> ∀ j u, (S.cs x)[j]? = some u -> (S.rcs l)[i * S.n + j]? = some u
 | [], i, x, h, j, u, hu => by simp at h
 | y :: l, 0, x, h, j, u, hu => by
  simp at h
  subst h
  have hj := (List.getElem?_eq_some_iff.1 hu).1
  rw [rcs_cons, Nat.zero_mul, Nat.zero_add, List.getElem?_append_left hj]
  exact hu
 | y :: l, i + 1, x, h, j, u, hu => by
  rw [rcs_cons, List.getElem?_append_right (by rw [S.len, Nat.add_mul]; omega), S.len, show (i + 1) * S.n + j - S.n = i * S.n + j by rw [Nat.add_mul]; omega]
  exact rcs_at (by simpa using h) j u hu
structure Row (S : Shp α) (w : World) (A : Option Addr) (n : Nat) (l : List α) : Prop where
 len : l.length = n
 tow : 0 < n -> ∃ ad, A = some ad ∧ ad.block < w.heap.size ∧ ∀ i x, l[i]? = some x -> S.At w (ad.add (i * S.n)) x
section
variable {w w' : World} {A : Option Addr} {n : Nat} {l : List α}
theorem Row.nil (w : World) (A : Option Addr) : Row S w A 0 [] := ⟨rfl, fun h => absurd h (by omega)⟩
theorem Row.kept (h : Row S w A n l) (hs : w.heap.size <= w'.heap.size) (hk : ∀ ad, A = some ad -> w'.heap[ad.block]? = w.heap[ad.block]?) : Row S w' A n l := ⟨h.len, fun hn => by
 obtain ⟨ad, e, hl, hc⟩ := h.tow hn
 exact ⟨ad, e, Nat.lt_of_lt_of_le hl hs, fun i x hx => at_to (hc i x hx) (by rw [block_of_add]; exact hk ad e)⟩⟩
theorem Row.on (h : Row S w A n l) (hb : Below w.heap.size w w') : Row S w' A n l := ⟨h.len, fun hn => by
 obtain ⟨ad, e, hl, hc⟩ := h.tow hn
 exact ⟨ad, e, Nat.lt_of_lt_of_le hl hb.size, fun i x hx => at_to (hc i x hx) (by rw [block_of_add]; exact hb.block _ hl)⟩⟩
theorem Row.drewN (h : Row S w A n l) (k : Nat) : Row S (w.drewN k) A n l := h.on ⟨rfl, rfl, rfl, Nat.le_refl _, fun _ _ => rfl⟩
theorem Row.alloc (h : Row S w A n l) (o : Obj) : Row S (w.alloc o) A n l := h.on ((Below.refl _ _).alloc (Nat.le_refl _) o)
theorem Row.rd {i : Nat} {x : α} (h : Row S w A n l) (hx : l[i]? = some x) : ∃ ad, A = some ad ∧ ad.block < w.heap.size ∧ S.rd w (ad.add (i * S.n)) = some x := by
 have := (List.getElem?_eq_some_iff.1 hx).1
 obtain ⟨ad, e, hl, hc⟩ := h.tow (by have := h.len; omega)
 exact ⟨ad, e, hl, rd_of (hc i x hx)⟩
theorem Row.take (h : Row S w A n l) {k : Nat} (hk : k <= n) : Row S w A k (l.take k) :=
 ⟨by have := h.len; simp; omega, fun h0 => by
  obtain ⟨ad, e, hl, hc⟩ := h.tow (by omega)
  refine ⟨ad, e, hl, fun i x hx => hc i x ?_⟩
  rw [List.getElem?_take] at hx
  split at hx
  ·exact hx
  ·cases hx⟩
end
structure Own (S : Shp α) (base e : Nat) (w : World) (A : Option Addr) (n c : Nat) (l : List α) : Prop where
 row : w.ownsRow base e S.n (.slice A n c) n (S.rcs l)
 base : base <= w.heap.size
section
variable {base e n c : Nat} {w w' : World} {A : Option Addr} {l : List α}
theorem Own.len (h : Own S base e w A n c l) : l.length = n := by
 have := h.row.1
 rw [rcs_len] at this
 exact Nat.eq_of_mul_eq_mul_right S.pos this
theorem Own.to_row (h : Own S base e w A n c l) : Row S w A n l :=
 ⟨h.len, fun hn => by
  obtain ⟨g, cap, e, _, hlt⟩ := h.row.form hn
  have hA : A = some ⟨g, 0, none⟩ := by injection e
  subst hA
  exact ⟨_, rfl, hlt, fun i x hx j u hu => by
   rw [add_of_add]
   exact h.row.cells (g := g) rfl _ _ (rcs_at hx j u hu)⟩⟩
theorem Own.nil (h : base <= w.heap.size) : Own S base e w none 0 0 [] := ⟨World.ownsRow_nil _ _ _ _, h⟩
theorem Own.kept (h : Own S base e w A n c l) (hs : w.heap.size <= w'.heap.size) (hk : ∀ g, (Value.slice A n c).ownBlock = some g -> w'.heap[g]? = w.heap[g]?) : Own S base e w' A n c l := by
 refine ⟨⟨h.row.1, ?_⟩, Nat.le_trans h.base hs⟩
 rcases h.row.2 with hn | ⟨g, cap, cur, e, hg, hh, r⟩
 ·exact .inl hn
 ·refine .inr ⟨g, cap, cur, e, hg, ?_, r⟩
  rw [hk g (by rw [e]; rfl)]
  exact hh
theorem Own.lt (h : Own S base e w A n c l) : ∀ k, (Value.slice A n c).ownBlock = some k -> base <= k ∧ k < w.heap.size := h.row.lt
theorem Own.on (h : Own S base e w A n c l) (hb : Below w.heap.size w w') : Own S base e w' A n c l := h.kept hb.size fun g hg => hb.block g (h.lt g hg).2
theorem Own.drewN (h : Own S base e w A n c l) (k : Nat) : Own S base e (w.drewN k) A n c l := ⟨h.row, h.base⟩
theorem Own.alloc (h : Own S base e w A n c l) (o : Obj) : Own S base e (w.alloc o) A n c l := h.on ((Below.refl _ _).alloc (Nat.le_refl _) o)
end
open Classical in
noncomputable def sm (S : Shp α) (x y : α) : Bool := decide (x = y)
end Shp
end Go.Proofs.YtgnjjlgmlokhmaaGreatDoor
