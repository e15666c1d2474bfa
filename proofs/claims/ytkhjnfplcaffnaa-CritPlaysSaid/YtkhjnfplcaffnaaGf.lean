/-
  Values of several cells, kept whole: their cells, what lies at an address, loads, stores, comparisons, rows.
  Keys, the document's keys, prefixes in memory.
  More of keys as plain numbers: the document's keys, prefixes.
  Words for walks with keys: the parts of a key that lies in a block, keys built, parts stored.
-/
import Derived.Test.YtkhjnfplcaffnaaGb
import Derived.Test.YtkhjnfplcaffnaaGc
import Derived.Laws.CopyRow
import Derived.Test.YtkhjnfplcaffnaaKmx
set_option linter.unusedVariables false
set_option linter.unusedSimpArgs false
set_option linter.unusedSectionVars false
set_option maxRecDepth 100000
namespace Go.Proofs.Ytkhjnfplcaffnaa
open Go.RowKit

/-- A kind of values of several cells. -/
structure Shp (α : Type) where
  cs : α → List Value
  n : Nat
  pos : 0 < n
  len : ∀ x, (cs x).length = n
  inj : ∀ {x y}, cs x = cs y → x = y
  one : ∀ x, ∀ u ∈ cs x, u.oneCell' = true
namespace Shp
variable {α : Type} (S : Shp α)
def v (x : α) : Array Value := (S.cs x).toArray
theorem v_size (x : α) : (S.v x).size = S.n := by simp [v, S.len]
theorem v_one (x : α) : (S.v x).all (·.oneCell') = true := all_oneCell_toArray (S.one x)
theorem v_inj {x y : α} (h : S.v x = S.v y) : x = y := S.inj (by simpa [v] using h)
/-- At this address lies this value. -/
def At (w : World) (a : Addr) (x : α) : Prop := ∀ j u, (S.cs x)[j]? = some u → w.cell? (a.add j) = some u
theorem at_one {w : World} {a : Addr} {x y : α} (h : S.At w a x) (k : S.At w a y) : x = y := by
  refine S.inj (List.ext_getElem? fun j => ?_)
  by_cases hj : j < S.n
  · have e1 : (S.cs x)[j]? = some ((S.cs x)[j]'(by rw [S.len]; exact hj)) := List.getElem?_eq_getElem _
    have e2 : (S.cs y)[j]? = some ((S.cs y)[j]'(by rw [S.len]; exact hj)) := List.getElem?_eq_getElem _
    have := (h j _ e1).symm.trans (k j _ e2)
    rw [e1, e2, this]
  · rw [List.getElem?_eq_none (by rw [S.len]; omega), List.getElem?_eq_none (by rw [S.len]; omega)]
open Classical in
noncomputable def rd (w : World) (a : Addr) : Option α := if h : ∃ x, S.At w a x then some (Classical.choose h) else none
variable {S}
theorem rd_of {w : World} {a : Addr} {x : α} (h : S.At w a x) : S.rd w a = some x := by
  have hx : ∃ x, S.At w a x := ⟨x, h⟩
  rw [rd, dif_pos hx, S.at_one (Classical.choose_spec hx) h]
theorem at_of {w : World} {a : Addr} {x : α} (h : S.rd w a = some x) : S.At w a x := by
  unfold rd at h
  split at h
  · rename_i hx
    injection h with h
    rw [← h]
    exact Classical.choose_spec hx
  · cases h
theorem at_to {w w' : World} {a : Addr} {x : α} (h : S.At w a x) (hk : w'.heap[a.block]? = w.heap[a.block]?) : S.At w' a x := fun j u hu =>
  (World.cell?_of_block (w := w) (by rw [block_of_add]; exact hk)).trans (h j u hu)
theorem rd_to {w w' : World} {a : Addr} (hk : w'.heap[a.block]? = w.heap[a.block]?) : S.rd w' a = S.rd w a := by
  by_cases h : ∃ x, S.At w a x
  · obtain ⟨x, hx⟩ := h
    rw [rd_of hx, rd_of (at_to hx hk)]
  · have h' : ¬ ∃ x, S.At w' a x := fun ⟨x, hx⟩ => h ⟨x, at_to hx hk.symm⟩
    rw [rd, rd, dif_neg h, dif_neg h']
theorem rd_lt {w : World} {a : Addr} {x : α} (h : S.rd w a = some x) : a.block < w.heap.size := by
  have e1 : (S.cs x)[0]? = some ((S.cs x)[0]'(by rw [S.len]; exact S.pos)) := List.getElem?_eq_getElem _
  have := World.block_lt_of_cell? w _ (at_of h 0 _ e1)
  rwa [block_of_add] at this
theorem rd_on {w w' : World} {a : Addr} {x : α} (h : S.rd w a = some x) (hb : Below w.heap.size w w') : S.rd w' a = some x := (rd_to (hb.block _ (rd_lt h))).trans h
theorem rd_blk {w : World} {g : Nat} {t : TypeId} {x : α} (h : Blk w g t (S.v x)) : S.rd w ⟨g, 0, none⟩ = some x := rd_of fun j u hu => by
  rw [World.news_of_block h.out j u]
  simpa [v] using hu
theorem rd_new (w : World) (n : Nat) (t : TypeId) (x : α) (h : n = w.heap.size) : S.rd (w.alloc (.cells (S.v x) t)) ⟨n, 0, none⟩ = some x := by
  subst h
  exact rd_blk (Blk.new w t (S.v x))
theorem rd_old (w : World) (a : Addr) (o : Obj) (h : a.block < w.heap.size) : S.rd (w.alloc o) a = S.rd w a := rd_to (Below.heap_alloc w o _ h)
theorem rd_drew (w : World) (a : Addr) : S.rd w.drew a = S.rd w a := rd_to rfl
theorem rd_drewN (w : World) (a : Addr) (n : Nat) : S.rd (w.drewN n) a = S.rd w a := rd_to rfl
theorem rd_setCell (w : World) (a p : Addr) (u : Value) (h : a.block ≠ p.block) : S.rd (w.setCell p u) a = S.rd w a := rd_to (Below.heap_setCell w p u _ h)
theorem rd_far (w : World) (g : Nat) (cs : Array Value) (a : Addr) (h : a.block ≠ g) : S.rd (w.setRow g cs) a = S.rd w a := rd_to (heap_setRow w g _ cs h)
theorem loadVar_of {w : World} {a : Addr} {x : α} {t : TypeId} (h1 : ∀ w, (isAgg t).run Try.prog w = .ok true w) (h2 : ∀ w, (sizeOf t).run Try.prog w = .ok S.n w) (h : S.At w a x) : (loadVar t a).run Try.prog w = .ok (.agg (S.v x)) w := by
  have hl := run_loadCells_list (P := Try.prog) w a (S.cs x) h
  rw [S.len] at hl
  simp only [Sem.run_bind, Sem.run_pure, Result.andThen_ok, loadVar, h1, h2, if_true, hl]
  rfl
theorem load_of {w : World} {a : Addr} {x : α} {t : TypeId} (h1 : ∀ w, (isAgg t).run Try.prog w = .ok true w) (h2 : ∀ w, (sizeOf t).run Try.prog w = .ok S.n w) (h : S.At w a x) : (Instr.loadAt t (.pointer (some a))).run Try.prog w = .ok (.agg (S.v x)) w := by
  simp only [Instr.loadAt, Instr.sureAddr, Sem.run_bind, Sem.run_pure, Result.andThen_ok]
  exact loadVar_of h1 h2 h
/-- Is a block one of so many cells? -/
def Ten (n : Nat) (w : World) (g : Nat) : Prop := ∃ t cs, Blk w g t cs ∧ cs.size = n
open Classical in
noncomputable def tn (n : Nat) (w : World) (g : Nat) : Bool := decide (Ten n w g)
theorem tn_of {n : Nat} {w : World} {g : Nat} {t : TypeId} {cs : Array Value} (h : Blk w g t cs) (hs : cs.size = n) : tn n w g = true := by
  classical
  exact decide_eq_true (show Ten n w g from ⟨t, cs, h, hs⟩)
theorem tn_blk {n : Nat} {w : World} {g : Nat} (h : tn n w g = true) : ∃ t cs, Blk w g t cs ∧ cs.size = n := by
  classical
  exact of_decide_eq_true (p := Ten n w g) h
theorem tn_lt {n : Nat} {w : World} {g : Nat} (h : tn n w g = true) : g < w.heap.size := by
  obtain ⟨t, cs, hb, _⟩ := tn_blk h
  exact hb.lt
theorem tn_to {n : Nat} {w w' : World} {g : Nat} (hk : w'.heap[g]? = w.heap[g]?) : tn n w' g = tn n w g := by
  unfold tn
  congr 1
  exact propext ⟨fun ⟨t, cs, h, hs⟩ => ⟨t, cs, ⟨hk.symm.trans h.out⟩, hs⟩, fun ⟨t, cs, h, hs⟩ => ⟨t, cs, ⟨hk.trans h.out⟩, hs⟩⟩
theorem tn_on {n : Nat} {w w' : World} {g : Nat} (h : tn n w g = true) (hb : Below w.heap.size w w') : tn n w' g = true := (tn_to (hb.block _ (tn_lt h))).trans h
theorem tn_new (n : Nat) (w : World) (g : Nat) (t : TypeId) (cs : Array Value) (h : g = w.heap.size) (hs : cs.size = n) : tn n (w.alloc (.cells cs t)) g = true := by
  subst h
  exact tn_of (Blk.new w t cs) hs
theorem tn_old (n : Nat) (w : World) (g : Nat) (o : Obj) (h : g < w.heap.size) : tn n (w.alloc o) g = tn n w g := tn_to (Below.heap_alloc w o _ h)
theorem tn_drew (n : Nat) (w : World) (g : Nat) : tn n w.drew g = tn n w g := tn_to rfl
theorem tn_drewN (n : Nat) (w : World) (g k : Nat) : tn n (w.drewN k) g = tn n w g := tn_to rfl
theorem tn_setRow {n : Nat} {w : World} {g : Nat} (h : Nat) {cs : Array Value} (hs : cs.size = n) (hg : tn n w g = true) : tn n (w.setRow h cs) g = true := by
  by_cases e : g = h
  · subst e
    obtain ⟨t, cs', hb, _⟩ := tn_blk hg
    have := hb.out
    exact tn_of (t := t) (cs := cs) ⟨by simp [World.setRow, Array.getElem?_modify, this]⟩ hs
  · exact (tn_to (heap_setRow w h g _ e)).trans hg
theorem rd_set (w : World) (g : Nat) (x : α) (h : tn S.n w g = true) : S.rd (w.setRow g (S.v x)) ⟨g, 0, none⟩ = some x := by
  obtain ⟨t, cs, hb, hs⟩ := tn_blk h
  have := hb.out
  exact rd_blk (t := t) ⟨by simp [World.setRow, Array.getElem?_modify, this]⟩
theorem storeVar_of {w : World} {g : Nat} {t : TypeId} (h : tn S.n w g = true) (x : α)
    (hv : ∀ t' cs, Blk w g t' cs → cs.size = (S.v x).size → (storeVar t ⟨g, 0, none⟩ (.agg (S.v x))).run Try.prog w = .ok () (w.setRow g (S.v x))) :
    (Instr.storeAt t (.pointer (some ⟨g, 0, none⟩)) (.agg (S.v x))).run Try.prog w = .ok () (w.setRow g (S.v x)) := by
  obtain ⟨t', cs, hb, hs⟩ := tn_blk h
  simp only [Instr.storeAt, Instr.sureAddr, Sem.run_bind, Sem.run_pure, Result.andThen_ok]
  exact hv t' cs hb (by rw [hs, S.v_size])

/-- The cells of several in a row. -/
def rcs (S : Shp α) (l : List α) : List Value := l.flatMap S.cs
theorem rcs_cons (x : α) (l : List α) : S.rcs (x :: l) = S.cs x ++ S.rcs l := rfl
theorem rcs_app (l k : List α) : S.rcs (l ++ k) = S.rcs l ++ S.rcs k := by simp [rcs]
theorem rcs_len (l : List α) : (S.rcs l).length = l.length * S.n := by
  induction l with
  | nil => simp [rcs]
  | cons x l ih => rw [rcs_cons, List.length_append, ih, S.len, List.length_cons, Nat.add_mul, Nat.one_mul, Nat.add_comm]
theorem rcs_one (l : List α) : ∀ u ∈ S.rcs l, u.oneCell' = true := by
  intro u hu
  obtain ⟨x, _, hx⟩ := List.mem_flatMap.1 hu
  exact S.one x u hx
theorem rcs_at : ∀ {l : List α} {i : Nat} {x : α}, l[i]? = some x → ∀ j u, (S.cs x)[j]? = some u → (S.rcs l)[i * S.n + j]? = some u
  | [], i, x, h, j, u, hu => by simp at h
  | y :: l, 0, x, h, j, u, hu => by
    simp at h
    subst h
    have hj := (List.getElem?_eq_some_iff.1 hu).1
    rw [rcs_cons, Nat.zero_mul, Nat.zero_add, List.getElem?_append_left hj]
    exact hu
  | y :: l, i + 1, x, h, j, u, hu => by
    rw [rcs_cons, List.getElem?_append_right (by rw [S.len, Nat.add_mul]; omega), S.len, show (i + 1) * S.n + j - S.n = i * S.n + j by rw [Nat.add_mul]; omega]
    exact rcs_at (by simpa using h) j u hu
/-- A slice of such values, nil let in. -/
structure Row (S : Shp α) (w : World) (A : Option Addr) (n : Nat) (l : List α) : Prop where
  len : l.length = n
  tow : 0 < n → ∃ ad, A = some ad ∧ ad.block < w.heap.size ∧ ∀ i x, l[i]? = some x → S.At w (ad.add (i * S.n)) x
section
variable {w w' : World} {A : Option Addr} {n : Nat} {l : List α}
theorem Row.nil (w : World) (A : Option Addr) : Row S w A 0 [] := ⟨rfl, fun h => absurd h (by omega)⟩
theorem Row.kept (h : Row S w A n l) (hs : w.heap.size ≤ w'.heap.size) (hk : ∀ ad, A = some ad → w'.heap[ad.block]? = w.heap[ad.block]?) : Row S w' A n l := ⟨h.len, fun hn => by
  obtain ⟨ad, e, hl, hc⟩ := h.tow hn
  exact ⟨ad, e, Nat.lt_of_lt_of_le hl hs, fun i x hx => at_to (hc i x hx) (by rw [block_of_add]; exact hk ad e)⟩⟩
theorem Row.on (h : Row S w A n l) (hb : Below w.heap.size w w') : Row S w' A n l := ⟨h.len, fun hn => by
  obtain ⟨ad, e, hl, hc⟩ := h.tow hn
  exact ⟨ad, e, Nat.lt_of_lt_of_le hl hb.size, fun i x hx => at_to (hc i x hx) (by rw [block_of_add]; exact hb.block _ hl)⟩⟩
theorem Row.drewN (h : Row S w A n l) (k : Nat) : Row S (w.drewN k) A n l := h.on ⟨rfl, rfl, rfl, Nat.le_refl _, fun _ _ => rfl⟩
theorem Row.alloc (h : Row S w A n l) (o : Obj) : Row S (w.alloc o) A n l := h.on ((Below.refl _ _).alloc (Nat.le_refl _) o)
theorem Row.rd {i : Nat} {x : α} (h : Row S w A n l) (hx : l[i]? = some x) : ∃ ad, A = some ad ∧ ad.block < w.heap.size ∧ S.rd w (ad.add (i * S.n)) = some x := by
  have := (List.getElem?_eq_some_iff.1 hx).1
  obtain ⟨ad, e, hl, hc⟩ := h.tow (by have := h.len; omega)
  exact ⟨ad, e, hl, rd_of (hc i x hx)⟩
theorem Row.take (h : Row S w A n l) {k : Nat} (hk : k ≤ n) : Row S w A k (l.take k) :=
  ⟨by have := h.len; simp; omega, fun h0 => by
    obtain ⟨ad, e, hl, hc⟩ := h.tow (by omega)
    refine ⟨ad, e, hl, fun i x hx => hc i x ?_⟩
    rw [List.getElem?_take] at hx
    split at hx
    · exact hx
    · cases hx⟩
theorem row_new (w : World) (e : TypeId) (H : Nat) (l : List α) (hH : H = w.heap.size) (cs : Array Value) (hc : cs.toList = S.rcs l) : Row S (w.alloc (.cells cs e)) (some ⟨H, 0, none⟩) l.length l := by
  subst hH
  refine ⟨rfl, fun _ => ⟨_, rfl, by simp, fun i x hx j u hu => ?_⟩⟩
  rw [add_of_add]
  exact World.news_of_block (heap_alloc_new w _) _ u (by rw [hc]; exact rcs_at hx j u hu)
end
/-- A slice of such values of the call's own, or nil. -/
structure Own (S : Shp α) (base e : Nat) (w : World) (A : Option Addr) (n c : Nat) (l : List α) : Prop where
  row : w.ownsRow base e S.n (.slice A n c) n (S.rcs l)
  base : base ≤ w.heap.size
section
variable {base e n c : Nat} {w w' : World} {A : Option Addr} {l : List α}
theorem Own.len (h : Own S base e w A n c l) : l.length = n := by
  have := h.row.1
  rw [rcs_len] at this
  exact Nat.eq_of_mul_eq_mul_right S.pos this
theorem Own.to_row (h : Own S base e w A n c l) : Row S w A n l :=
  ⟨h.len, fun hn => by
    obtain ⟨g, cap, e, _, hlt⟩ := h.row.form hn
    have hA : A = some ⟨g, 0, none⟩ := by injection e
    subst hA
    exact ⟨_, rfl, hlt, fun i x hx j u hu => by
      rw [add_of_add]
      exact h.row.cells (g := g) rfl _ _ (rcs_at hx j u hu)⟩⟩
theorem Own.nil (h : base ≤ w.heap.size) : Own S base e w none 0 0 [] := ⟨World.ownsRow_nil _ _ _ _, h⟩
theorem Own.kept (h : Own S base e w A n c l) (hs : w.heap.size ≤ w'.heap.size) (hk : ∀ g, (Value.slice A n c).ownBlock = some g → w'.heap[g]? = w.heap[g]?) : Own S base e w' A n c l := by
  refine ⟨⟨h.row.1, ?_⟩, Nat.le_trans h.base hs⟩
  rcases h.row.2 with hn | ⟨g, cap, cur, e, hg, hh, r⟩
  · exact .inl hn
  · refine .inr ⟨g, cap, cur, e, hg, ?_, r⟩
    rw [hk g (by rw [e]; rfl)]
    exact hh
theorem Own.lt (h : Own S base e w A n c l) : ∀ k, (Value.slice A n c).ownBlock = some k → base ≤ k ∧ k < w.heap.size := h.row.lt
theorem Own.on (h : Own S base e w A n c l) (hb : Below w.heap.size w w') : Own S base e w' A n c l := h.kept hb.size fun g hg => hb.block g (h.lt g hg).2
theorem Own.drewN (h : Own S base e w A n c l) (k : Nat) : Own S base e (w.drewN k) A n c l := ⟨h.row, h.base⟩
theorem Own.alloc (h : Own S base e w A n c l) (o : Obj) : Own S base e (w.alloc o) A n c l := h.on ((Below.refl _ _).alloc (Nat.le_refl _) o)
end
open Classical in
/-- Are two the same? -/
noncomputable def sm (S : Shp α) (x y : α) : Bool := decide (x = y)
end Shp
end Go.Proofs.Ytkhjnfplcaffnaa
set_option linter.unusedVariables false
set_option linter.unusedSimpArgs false
set_option maxRecDepth 100000
namespace Go.Proofs.Ytkhjnfplcaffnaa
open Go.RowKit

theorem Shp.key_of {α : Type} {S : Shp α} {t : TypeId} {x : α} (hu : (∃ n e, Try.prog.underlying t = some (.array n e)) ∨ (∃ fs, Try.prog.underlying t = some (.struct fs))) (hkt : Try.prog.keyType t = true) (hc : Try.prog.cellsOf t = S.n) (hl : ∃ l, Try.prog.keyLits (Try.prog.types.size + 1) t (S.cs x) = some l) : ∃ l, keyOf Try.prog t (.agg (S.v x)) = some l := by
  obtain ⟨l, hl⟩ := hl
  refine ⟨.string (keyBytes l), ?_⟩
  have hs : ((S.v x).size == Try.prog.cellsOf t) = true := by rw [S.v_size, hc]; simp
  have e : (S.v x).toList = S.cs x := by simp [Shp.v]
  unfold keyOf
  rcases hu with ⟨n, q, hu⟩ | ⟨fs, hu⟩
  · rw [hu]
    simp only [hkt, Value.formed, hu, Value.cells, Bool.true_and, hs, if_true, e, hl, Option.map_some]
  · rw [hu]
    simp only [hkt, Value.formed, hu, Value.cells, Bool.true_and, hs, if_true, e, hl, Option.map_some]
theorem Shp.run_equal {α : Type} {S : Shp α} {t : TypeId} (hu : (∃ n e, Try.prog.underlying t = some (.array n e)) ∨ (∃ fs, Try.prog.underlying t = some (.struct fs))) {m : Nat} (hm : m ≤ 10000) (hk : Try.prog.keyTypeAt m t = true) (K : Maps.Keyed Try.prog t)
    (hX : ∀ x : α, ∃ l, keyOf Try.prog t (.agg (S.v x)) = some l) (x y : α) (w : World) : (Op.equal t (.agg (S.v x)) (.agg (S.v y))).run Try.prog w = .ok (S.sm x y) w := by
  obtain ⟨lx, hx⟩ := hX x
  obtain ⟨ly, hy⟩ := hX y
  have hw : (match Try.prog.underlying t with | some (.array _ _) | some (.struct _) => true | _ => false) = true := by
    rcases hu with ⟨n, q, hu⟩ | ⟨fs, hu⟩ <;> rw [hu]
  obtain ⟨r, hr, hiff⟩ := run_equal_deep (P := Try.prog) w hm hk hw hx hy
  rw [hr]
  congr 1
  have : (r = true) ↔ x = y := by
    rw [hiff]
    constructor
    · intro e
      subst e
      have := K.inj hx hy
      injection this with this
      exact S.v_inj this
    · intro e
      subst e
      rw [hx] at hy
      injection hy
  unfold Shp.sm
  cases r
  · symm; simpa using this
  · symm; simpa using this

/-- Keys. -/
def kS : Shp D.Ky := ⟨fun x => bys x.l, 25, by decide, fun x => by rw [bys_len, x.len], fun h => D.Ky.eq (bys_inj h), fun x => bys_one x.l⟩
/-- The document's keys. -/
structure D.Rk where
  k : Int
  p : Int
  a : Int
  n : Nm.D.Nm
  t : D.Tg
  hk : -9223372036854775808 ≤ k ∧ k ≤ 9223372036854775807
  hp : -9223372036854775808 ≤ p ∧ p ≤ 9223372036854775807
  ha : -9223372036854775808 ≤ a ∧ a ≤ 9223372036854775807
def rcells (x : D.Rk) : List Value := .int .i64 x.k :: .int .i64 x.p :: .int .i64 x.a :: (bys x.n.l ++ bys x.t.l)
theorem rcells_inj {x y : D.Rk} (h : rcells x = rcells y) : x = y := by
  obtain ⟨k, p, a, n, t, _, _, _⟩ := x
  obtain ⟨k', p', a', n', t', _, _, _⟩ := y
  simp only [rcells, List.cons.injEq, Value.int.injEq, true_and] at h
  obtain ⟨rfl, rfl, rfl, h⟩ := h
  have := List.append_inj h (by simp [bys_len, Nm.D.Nm.len])
  obtain rfl := Nm.D.Nm.eq (bys_inj this.1)
  obtain rfl := D.Tg.eq (bys_inj this.2)
  rfl
def rS : Shp D.Rk := ⟨rcells, 25, by decide, fun x => by simp [rcells, bys_len, x.n.len, x.t.len], rcells_inj, fun x u hu => by
  simp only [rcells, List.mem_cons, List.mem_append] at hu
  rcases hu with rfl | rfl | rfl | hu | hu
  · rfl
  · rfl
  · rfl
  · exact bys_one _ u hu
  · exact bys_one _ u hu⟩
/-- Prefixes. -/
structure D.Px where
  x : D.Ky
  d : Int
  hd : -9223372036854775808 ≤ d ∧ d ≤ 9223372036854775807
def pcells (q : D.Px) : List Value := bys q.x.l ++ [.int .i64 q.d]
theorem pcells_inj {x y : D.Px} (h : pcells x = pcells y) : x = y := by
  obtain ⟨x, d, _⟩ := x
  obtain ⟨x', d', _⟩ := y
  have := List.append_inj h (by simp [bys_len, D.Ky.len])
  obtain rfl := D.Ky.eq (bys_inj this.1)
  have h2 := this.2
  simp only [List.cons.injEq, Value.int.injEq, true_and, and_true] at h2
  subst h2
  rfl
def pS : Shp D.Px := ⟨pcells, 26, by decide, fun x => by simp [pcells, bys_len, x.x.len], pcells_inj, fun x u hu => by
  rcases List.mem_append.1 hu with hu | hu
  · exact bys_one _ u hu
  · simp only [List.mem_singleton] at hu; subst hu; rfl⟩

theorem one_lits {l : List Nat} (hl : ∀ b ∈ l, b < 256) {i : Nat} (hi : i < l.length) (d : Nat) : Try.prog.keyLits (d + 1) 5 (((bys l).drop i).take 1) = some [Lit.int .u8 ((l.getD i 0 : Nat) : Int)] := by
  rw [one_bys hi]
  have hb : l.getD i 0 < 256 := by
    rw [List.getD, List.getElem?_eq_getElem hi]
    exact hl _ (List.getElem_mem _)
  obtain ⟨b, hq⟩ : ∃ b, l.getD i 0 = b := ⟨_, rfl⟩
  rw [hq] at hb ⊢
  have hw : (Lit.int .u8 ((b : Nat) : Int)).wf = true := by
    simp [Lit.wf, IntKind.min, IntKind.max, IntKind.bits, IntKind.signed]
    omega
  unfold Program.keyLits
  rw [Try.underlying5]
  simp [hw]
theorem int_lits {n : Int} (h : -9223372036854775808 ≤ n ∧ n ≤ 9223372036854775807) (d : Nat) : Try.prog.keyLits (d + 1) 3 [.int .i64 n] = some [Lit.int .i64 n] := by
  have hw : (Lit.int .i64 n).wf = true := by
    simp [Lit.wf, IntKind.min, IntKind.max, IntKind.bits, IntKind.signed]
    omega
  unfold Program.keyLits
  rw [Try.underlying3]
  simp [hw]
theorem k_lits_a (x : D.Ky) (d : Nat) : ∃ l, Try.prog.keyLits (d + 3) 101 (bys x.l) = some l :=
  ⟨_, lits_arr x.l x.lt 25 x.len 101 (d + 1) Try.underlying101 (by kernel_rfl)⟩
theorem c_key : Try.prog.cellsOf 30 = 25 := by kernel_rfl
theorem c_name : Try.prog.cellsOf 24 = 12 := by kernel_rfl
theorem c_tag : Try.prog.cellsOf 28 = 10 := by kernel_rfl
theorem c_12 : Try.prog.cellsOf 23 = 12 := by kernel_rfl
theorem c_10 : Try.prog.cellsOf 38 = 10 := by kernel_rfl
theorem c_int : Try.prog.cellsOf 3 = 1 := by kernel_rfl
theorem c_rk : Try.prog.cellsOf 40 = 25 := by kernel_rfl
theorem c_px : Try.prog.cellsOf 52 = 26 := by kernel_rfl
theorem k_lits_k (x : D.Ky) (d : Nat) : ∃ l, Try.prog.keyLits (d + 4) 30 (bys x.l) = some l := by
  have hl := x.len
  have h0 := one_lits x.lt (i := 0) (by omega) (d + 2)
  have h1 := one_lits x.lt (i := 1) (by omega) (d + 2)
  have h2 := one_lits x.lt (i := 2) (by omega) (d + 2)
  obtain ⟨ln, hn⟩ := Nm.key_lits x.n 24 (d + 1) Try.underlying24 c_name
  obtain ⟨lt, ht⟩ := key_lits_n x.t d
  have en : bys x.n.l = ((bys x.l).drop 3).take 12 := by rw [bys_drop, bys_take]; rfl
  have et : bys x.t.l = ((bys x.l).drop 15).take 10 := by
    rw [List.take_of_length_le (by rw [List.length_drop, bys_len, hl]; omega), bys_drop]; rfl
  rw [en] at hn
  rw [et] at ht
  rw [List.drop_zero] at h0
  unfold Program.keyLits
  rw [Try.underlying30]
  simp only [bys_len, hl, c_key, c_name, c_tag, cells_u8]
  simp [-List.drop_one, h0, h1, h2, hn, ht, c_name, c_tag, cells_u8]
theorem r_lits (x : D.Rk) (d : Nat) : ∃ l, Try.prog.keyLits (d + 4) 40 (rcells x) = some l := by
  have hl : (rcells x).length = 25 := rS.len x
  have h0 := int_lits x.hk (d + 2)
  have h1 := int_lits x.hp (d + 2)
  have h2 := int_lits x.ha (d + 2)
  obtain ⟨ln, hn⟩ := Nm.key_lits x.n 23 (d + 1) Try.underlying23 c_12
  obtain ⟨lt, ht⟩ := key_lits_a x.t d
  have en : ((rcells x).drop 3).take 12 = bys x.n.l := by
    show (bys x.n.l ++ bys x.t.l).take 12 = _
    rw [List.take_append_of_le_length (by rw [bys_len, x.n.len]; omega), List.take_of_length_le (by rw [bys_len, x.n.len]; omega)]
  have et : ((rcells x).drop 15).take 10 = bys x.t.l := by
    show ((bys x.n.l ++ bys x.t.l).drop 12).take 10 = _
    have : 12 = (bys x.n.l).length := by rw [bys_len, x.n.len]
    rw [this, List.drop_left, List.take_of_length_le (by rw [bys_len, x.t.len]; omega)]
  have e0 : (rcells x).take 1 = [.int .i64 x.k] := rfl
  have e1 : ((rcells x).drop 1).take 1 = [.int .i64 x.p] := rfl
  have e2 : ((rcells x).drop 2).take 1 = [.int .i64 x.a] := rfl
  unfold Program.keyLits
  rw [Try.underlying40]
  simp only [hl, c_rk, c_12, c_10, c_int]
  simp only [true_and]
  simp [-List.drop_one, e0, e1, e2, en, et, h0, h1, h2, hn, ht, c_12, c_10, c_int, hl]
theorem p_lits (x : D.Px) (d : Nat) : ∃ l, Try.prog.keyLits (d + 5) 52 (pcells x) = some l := by
  have hl : (pcells x).length = 26 := pS.len x
  obtain ⟨lk, hk⟩ := k_lits_k x.x d
  have h1 := int_lits x.hd (d + 3)
  have ek : (pcells x).take 25 = bys x.x.l := by
    show (bys x.x.l ++ _).take 25 = _
    rw [List.take_append_of_le_length (by rw [bys_len, x.x.len]; omega), List.take_of_length_le (by rw [bys_len, x.x.len]; omega)]
  have ed : ((pcells x).drop 25).take 1 = [.int .i64 x.d] := by
    have : 25 = (bys x.x.l).length := by rw [bys_len, x.x.len]
    rw [pcells, this, List.drop_left]
    rfl
  unfold Program.keyLits
  rw [Try.underlying52]
  simp only [hl, c_px, c_key, c_int]
  simp [ek, ed, hk, h1, c_key, c_int, hl]
theorem u_key : ∃ fs, Try.prog.underlying 30 = some (.struct fs) := ⟨_, Try.underlying30⟩
theorem u_25 : ∃ n e, Try.prog.underlying 101 = some (.array n e) := ⟨_, _, Try.underlying101⟩
theorem u_rk : ∃ fs, Try.prog.underlying 40 = some (.struct fs) := ⟨_, Try.underlying40⟩
theorem u_px : ∃ fs, Try.prog.underlying 52 = some (.struct fs) := ⟨_, Try.underlying52⟩
theorem key_k (x : D.Ky) : ∃ l, keyOf Try.prog 30 (.agg (kS.v x)) = some l := Shp.key_of (.inr u_key) (by kernel_rfl) c_key (by rw [show Try.prog.types.size + 1 = Try.prog.types.size - 3 + 4 by kernel_rfl]; exact k_lits_k x _)
theorem key_25 (x : D.Ky) : ∃ l, keyOf Try.prog 101 (.agg (kS.v x)) = some l := Shp.key_of (.inl u_25) (by kernel_rfl) (by kernel_rfl) (by rw [show Try.prog.types.size + 1 = Try.prog.types.size - 2 + 3 by kernel_rfl]; exact k_lits_a x _)
theorem key_r (x : D.Rk) : ∃ l, keyOf Try.prog 40 (.agg (rS.v x)) = some l := Shp.key_of (.inr u_rk) (by kernel_rfl) c_rk (by rw [show Try.prog.types.size + 1 = Try.prog.types.size - 3 + 4 by kernel_rfl]; exact r_lits x _)
theorem key_p (x : D.Px) : ∃ l, keyOf Try.prog 52 (.agg (pS.v x)) = some l := Shp.key_of (.inr u_px) (by kernel_rfl) c_px (by rw [show Try.prog.types.size + 1 = Try.prog.types.size - 4 + 5 by kernel_rfl]; exact p_lits x _)
theorem law_k : Maps.Keyed Try.prog 30 := Maps.Keyed.of_law (deep_law_laid laid_out (m := 6) (by omega) (of_decide_eq_true (by kernel_rfl)) (by kernel_rfl) (by rw [Try.underlying30]))
theorem law_25 : Maps.Keyed Try.prog 101 := Maps.Keyed.of_law (deep_law_laid laid_out (m := 6) (by omega) (of_decide_eq_true (by kernel_rfl)) (by kernel_rfl) (by rw [Try.underlying101]))
theorem law_rk : Maps.Keyed Try.prog 40 := Maps.Keyed.of_law (deep_law_laid laid_out (m := 6) (by omega) (of_decide_eq_true (by kernel_rfl)) (by kernel_rfl) (by rw [Try.underlying40]))
theorem law_px : Maps.Keyed Try.prog 52 := Maps.Keyed.of_law (deep_law_laid laid_out (m := 6) (by omega) (of_decide_eq_true (by kernel_rfl)) (by kernel_rfl) (by rw [Try.underlying52]))

noncomputable def ldk (v : Value) : Sem Value := Instr.loadAt 30 v
noncomputable def ldb (v : Value) : Sem Value := Instr.loadAt 101 v
noncomputable def ldr (v : Value) : Sem Value := Instr.loadAt 40 v
noncomputable def ldp (v : Value) : Sem Value := Instr.loadAt 52 v
noncomputable def lvk (a : Addr) : Sem Value := loadVar 30 a
noncomputable def lvb (a : Addr) : Sem Value := loadVar 101 a
noncomputable def lvr (a : Addr) : Sem Value := loadVar 40 a
noncomputable def lvp (a : Addr) : Sem Value := loadVar 52 a
noncomputable def stk (p v : Value) : Sem Unit := Instr.storeAt 30 p v
noncomputable def stb (p v : Value) : Sem Unit := Instr.storeAt 101 p v
noncomputable def strk (p v : Value) : Sem Unit := Instr.storeAt 40 p v
noncomputable def stpx (p v : Value) : Sem Unit := Instr.storeAt 52 p v
noncomputable def eqk (u v : Value) : Sem Value := binOp .eql 30 u v
noncomputable def nek (u v : Value) : Sem Value := binOp .neq 30 u v
noncomputable def eqb (u v : Value) : Sem Value := binOp .eql 101 u v
noncomputable def neb (u v : Value) : Sem Value := binOp .neq 101 u v
noncomputable def eqrk (u v : Value) : Sem Value := binOp .eql 40 u v
noncomputable def nerk (u v : Value) : Sem Value := binOp .neq 40 u v
theorem ld_k (v : Value) : Instr.loadAt 30 v = ldk v := rfl
theorem ld_b (v : Value) : Instr.loadAt 101 v = ldb v := rfl
theorem ld_r (v : Value) : Instr.loadAt 40 v = ldr v := rfl
theorem ld_p (v : Value) : Instr.loadAt 52 v = ldp v := rfl
theorem lv_k (a : Addr) : loadVar 30 a = lvk a := rfl
theorem lv_b (a : Addr) : loadVar 101 a = lvb a := rfl
theorem lv_r (a : Addr) : loadVar 40 a = lvr a := rfl
theorem lv_p (a : Addr) : loadVar 52 a = lvp a := rfl
theorem st_k (p v : Value) : Instr.storeAt 30 p v = stk p v := rfl
theorem st_b (p v : Value) : Instr.storeAt 101 p v = stb p v := rfl
theorem st_rk (p v : Value) : Instr.storeAt 40 p v = strk p v := rfl
theorem st_px (p v : Value) : Instr.storeAt 52 p v = stpx p v := rfl
theorem eq_k (u v : Value) : binOp .eql 30 u v = eqk u v := rfl
theorem ne_k (u v : Value) : binOp .neq 30 u v = nek u v := rfl
theorem eq_b (u v : Value) : binOp .eql 101 u v = eqb u v := rfl
theorem ne_b (u v : Value) : binOp .neq 101 u v = neb u v := rfl
theorem eq_rk (u v : Value) : binOp .eql 40 u v = eqrk u v := rfl
theorem ne_rk (u v : Value) : binOp .neq 40 u v = nerk u v := rfl
noncomputable def bl (t : TypeId) (a : Addr) (w : World) : Result Value := (loadVar t a).run Try.prog w
theorem run_lvk (w : World) (a : Addr) : (lvk a).run Try.prog w = (kS.rd w a).elim (bl 30 a w) fun x => .ok (.agg (kS.v x)) w := by
  cases h : kS.rd w a with
  | none => rfl
  | some x => exact Shp.loadVar_of Try.isAgg30 Try.sizeOf30 (Shp.at_of h)
theorem run_lvb (w : World) (a : Addr) : (lvb a).run Try.prog w = (kS.rd w a).elim (bl 101 a w) fun x => .ok (.agg (kS.v x)) w := by
  cases h : kS.rd w a with
  | none => rfl
  | some x => exact Shp.loadVar_of Try.isAgg101 Try.sizeOf101 (Shp.at_of h)
theorem run_lvr (w : World) (a : Addr) : (lvr a).run Try.prog w = (rS.rd w a).elim (bl 40 a w) fun x => .ok (.agg (rS.v x)) w := by
  cases h : rS.rd w a with
  | none => rfl
  | some x => exact Shp.loadVar_of Try.isAgg40 Try.sizeOf40 (Shp.at_of h)
theorem run_lvp (w : World) (a : Addr) : (lvp a).run Try.prog w = (pS.rd w a).elim (bl 52 a w) fun x => .ok (.agg (pS.v x)) w := by
  cases h : pS.rd w a with
  | none => rfl
  | some x => exact Shp.loadVar_of Try.isAgg52 Try.sizeOf52 (Shp.at_of h)
theorem run_ldk (w : World) (a : Addr) : (ldk (.pointer (some a))).run Try.prog w = (kS.rd w a).elim (bl 30 a w) fun x => .ok (.agg (kS.v x)) w := by
  rw [← run_lvk]; simp only [ldk, lvk, Instr.loadAt, Instr.sureAddr, Sem.run_bind, Sem.run_pure, Result.andThen_ok]
theorem run_ldb (w : World) (a : Addr) : (ldb (.pointer (some a))).run Try.prog w = (kS.rd w a).elim (bl 101 a w) fun x => .ok (.agg (kS.v x)) w := by
  rw [← run_lvb]; simp only [ldb, lvb, Instr.loadAt, Instr.sureAddr, Sem.run_bind, Sem.run_pure, Result.andThen_ok]
theorem run_ldr (w : World) (a : Addr) : (ldr (.pointer (some a))).run Try.prog w = (rS.rd w a).elim (bl 40 a w) fun x => .ok (.agg (rS.v x)) w := by
  rw [← run_lvr]; simp only [ldr, lvr, Instr.loadAt, Instr.sureAddr, Sem.run_bind, Sem.run_pure, Result.andThen_ok]
theorem run_ldp (w : World) (a : Addr) : (ldp (.pointer (some a))).run Try.prog w = (pS.rd w a).elim (bl 52 a w) fun x => .ok (.agg (pS.v x)) w := by
  rw [← run_lvp]; simp only [ldp, lvp, Instr.loadAt, Instr.sureAddr, Sem.run_bind, Sem.run_pure, Result.andThen_ok]
noncomputable def bs (t : TypeId) (g : Nat) (v : Array Value) (w : World) : Result Unit := (Instr.storeAt t (.pointer (some ⟨g, 0, none⟩)) (.agg v)).run Try.prog w
theorem run_stk (w : World) (g : Nat) (x : D.Ky) : (stk (.pointer (some ⟨g, 0, none⟩)) (.agg (kS.v x))).run Try.prog w = bif Shp.tn 25 w g then .ok () (w.setRow g (kS.v x)) else bs 30 g (kS.v x) w := by
  cases h : Shp.tn 25 w g with
  | false => rfl
  | true => exact Shp.storeVar_of (S := kS) h x fun t' cs hb hs => run_storeVar_row (P := Try.prog) w g t' _ cs (kS.v x) hb.out (by rw [kS.v_size]; kernel_rfl) hs (kS.v_one x)
theorem run_stb (w : World) (g : Nat) (x : D.Ky) : (stb (.pointer (some ⟨g, 0, none⟩)) (.agg (kS.v x))).run Try.prog w = bif Shp.tn 25 w g then .ok () (w.setRow g (kS.v x)) else bs 101 g (kS.v x) w := by
  cases h : Shp.tn 25 w g with
  | false => rfl
  | true => exact Shp.storeVar_of (S := kS) h x fun t' cs hb hs => run_storeVar_row (P := Try.prog) w g t' _ cs (kS.v x) hb.out (by rw [kS.v_size]; kernel_rfl) hs (kS.v_one x)
theorem run_strk (w : World) (g : Nat) (x : D.Rk) : (strk (.pointer (some ⟨g, 0, none⟩)) (.agg (rS.v x))).run Try.prog w = bif Shp.tn 25 w g then .ok () (w.setRow g (rS.v x)) else bs 40 g (rS.v x) w := by
  cases h : Shp.tn 25 w g with
  | false => rfl
  | true => exact Shp.storeVar_of (S := rS) h x fun t' cs hb hs => run_storeVar_row (P := Try.prog) w g t' _ cs (rS.v x) hb.out (by rw [rS.v_size]; kernel_rfl) hs (rS.v_one x)
theorem run_stpx (w : World) (g : Nat) (x : D.Px) : (stpx (.pointer (some ⟨g, 0, none⟩)) (.agg (pS.v x))).run Try.prog w = bif Shp.tn 26 w g then .ok () (w.setRow g (pS.v x)) else bs 52 g (pS.v x) w := by
  cases h : Shp.tn 26 w g with
  | false => rfl
  | true => exact Shp.storeVar_of (S := pS) h x fun t' cs hb hs => run_storeVar_row (P := Try.prog) w g t' _ cs (pS.v x) hb.out (by rw [pS.v_size]; kernel_rfl) hs (pS.v_one x)
theorem run_eqk (w : World) (x y : D.Ky) : (eqk (.agg (kS.v x)) (.agg (kS.v y))).run Try.prog w = .ok (.bool (kS.sm x y)) w := by
  simp only [eqk, binOp]
  rw [Sem.run_bind, Shp.run_equal (.inr u_key) (m := 6) (by omega) (by kernel_rfl) law_k key_k]
  rfl
theorem run_nek (w : World) (x y : D.Ky) : (nek (.agg (kS.v x)) (.agg (kS.v y))).run Try.prog w = .ok (.bool (!kS.sm x y)) w := by
  simp only [nek, binOp]
  rw [Sem.run_bind, Shp.run_equal (.inr u_key) (m := 6) (by omega) (by kernel_rfl) law_k key_k]
  rfl
theorem run_eqb (w : World) (x y : D.Ky) : (eqb (.agg (kS.v x)) (.agg (kS.v y))).run Try.prog w = .ok (.bool (kS.sm x y)) w := by
  simp only [eqb, binOp]
  rw [Sem.run_bind, Shp.run_equal (.inl u_25) (m := 6) (by omega) (by kernel_rfl) law_25 key_25]
  rfl
theorem run_neb (w : World) (x y : D.Ky) : (neb (.agg (kS.v x)) (.agg (kS.v y))).run Try.prog w = .ok (.bool (!kS.sm x y)) w := by
  simp only [neb, binOp]
  rw [Sem.run_bind, Shp.run_equal (.inl u_25) (m := 6) (by omega) (by kernel_rfl) law_25 key_25]
  rfl
theorem run_eqrk (w : World) (x y : D.Rk) : (eqrk (.agg (rS.v x)) (.agg (rS.v y))).run Try.prog w = .ok (.bool (rS.sm x y)) w := by
  simp only [eqrk, binOp]
  rw [Sem.run_bind, Shp.run_equal (.inr u_rk) (m := 6) (by omega) (by kernel_rfl) law_rk key_r]
  rfl
theorem run_nerk (w : World) (x y : D.Rk) : (nerk (.agg (rS.v x)) (.agg (rS.v y))).run Try.prog w = .ok (.bool (!rS.sm x y)) w := by
  simp only [nerk, binOp]
  rw [Sem.run_bind, Shp.run_equal (.inr u_rk) (m := 6) (by omega) (by kernel_rfl) law_rk key_r]
  rfl
end Go.Proofs.Ytkhjnfplcaffnaa
set_option linter.unusedVariables false
set_option linter.unusedSimpArgs false
set_option maxRecDepth 100000
namespace Go.Proofs.Ytkhjnfplcaffnaa
namespace D
theorem Rk.eq {x y : Rk} (h1 : x.k = y.k) (h2 : x.p = y.p) (h3 : x.a = y.a) (h4 : x.n = y.n) (h5 : x.t = y.t) : x = y := by
  cases x; cases y; simp only at h1 h2 h3 h4 h5; subst h1; subst h2; subst h3; subst h4; subst h5; rfl
instance : DecidableEq Rk := fun x y => decidable_of_iff (x.k = y.k ∧ x.p = y.p ∧ x.a = y.a ∧ x.n = y.n ∧ x.t = y.t) ⟨fun ⟨h1, h2, h3, h4, h5⟩ => Rk.eq h1 h2 h3 h4 h5, fun h => by subst h; exact ⟨rfl, rfl, rfl, rfl, rfl⟩⟩
def zR : Rk := ⟨0, 0, 0, Nm.D.zero, zero, by decide, by decide, by decide⟩
/-- A key as the document's. -/
def toR (x : Ky) : Rk := ⟨x.k, x.p, x.a, x.n, x.t, by have := x.k_lt; omega, by have := x.p_lt; omega, by have := x.a_lt; omega⟩
theorem toR_inj {x y : Ky} (h : toR x = toR y) : x = y := by
  have h1 := congrArg Rk.k h
  have h2 := congrArg Rk.p h
  have h3 := congrArg Rk.a h
  have h4 := congrArg Rk.n h
  have h5 := congrArg Rk.t h
  simp only [toR] at h1 h2 h3 h4 h5
  exact Ky.ext (by omega) (by omega) (by omega) h4 h5
def rerr (x : Rk) : Int := err x.k x.p x.a x.n x.t
def mkR (x : Rk) : Rk := ⟨x.k, x.p, if 0 < ats x.k then x.a else 0, if nmd x.k then x.n else Nm.D.zero, if tgd x.k then x.t else zero, x.hk, x.hp, by have := x.ha; split <;> omega⟩
def rkof (x : Rk) : Rk × Int := if rerr x = 0 then (mkR x, 0) else (zR, rerr x)
def rright (x : Rk) : Bool := decide (rerr x = 0 ∧ mkR x = x)
theorem toR_mkI {x : Rk} (h : rerr x = 0) : toR (mkI x.k x.p x.a x.n x.t) = mkR x := by
  obtain ⟨h1, h2, h3, h4, h5⟩ := err_ok h
  have ha := ats_le x.k
  refine Rk.eq ?_ ?_ ?_ ?_ ?_
  · show ((mkI x.k x.p x.a x.n x.t).k : Int) = x.k
    rw [mkI, mkK_k (by omega)]; omega
  · show ((mkI x.k x.p x.a x.n x.t).p : Int) = x.p
    rw [mkI, mkK_p (by omega)]; omega
  · show ((mkI x.k x.p x.a x.n x.t).a : Int) = if 0 < ats x.k then x.a else 0
    rw [mkI, mkK_a (by split; have := h3 ‹_›; omega; omega)]
    split
    · have := h3 ‹_›; omega
    · rfl
  · show (mkI x.k x.p x.a x.n x.t).n = _
    exact mkK_n
  · show (mkI x.k x.p x.a x.n x.t).t = _
    exact mkK_t
theorem rright_to (x : Ky) : rright (toR x) = kright x := by
  unfold rright kright
  rw [decide_eq_decide]
  constructor
  · rintro ⟨h1, h2⟩
    exact ⟨h1, toR_inj ((toR_mkI h1).trans h2)⟩
  · rintro ⟨h1, h2⟩
    exact ⟨h1, (toR_mkI (x := toR x) h1).symm.trans (congrArg toR h2)⟩
theorem rkof_to {x : Ky} (h : kright x = true) : rkof (toR x) = (toR x, 0) := by
  rw [← rright_to] at h
  simp only [rright, decide_eq_true_eq] at h
  rw [rkof, if_pos h.1, h.2]
/-- A key's parts up to a depth. -/
def upto (x : Ky) (d : Int) : Ky :=
  if d = 0 then zK else if d = 1 then mkK x.k 0 0 Nm.D.zero zero else if d = 2 then mkK x.k x.p 0 Nm.D.zero zero else if d = 3 then mkK x.k x.p x.a Nm.D.zero zero else if d = 4 then mkK x.k x.p x.a x.n zero else x
def has (p : Ky) (d : Int) (x : Ky) : Bool := decide (0 ≤ d ∧ d ≤ 5 ∧ upto p d = upto x d)
def ends (d : Int) : Nat := if d = 1 then 1 else if d = 2 then 2 else if d = 3 then 3 else if d = 4 then 15 else if d = 5 then 25 else 0
theorem mkK_inj {k p a k' p' a' : Nat} {n n' : Nm.D.Nm} {t t' : Tg} (hk : k < 256) (hp : p < 256) (ha : a < 256) (hk' : k' < 256) (hp' : p' < 256) (ha' : a' < 256) : mkK k p a n t = mkK k' p' a' n' t' ↔ k = k' ∧ p = p' ∧ a = a' ∧ n = n' ∧ t = t' := by
  constructor
  · intro h
    have h1 := congrArg Ky.k h
    have h2 := congrArg Ky.p h
    have h3 := congrArg Ky.a h
    have h4 := congrArg Ky.n h
    have h5 := congrArg Ky.t h
    rw [mkK_k hk, mkK_k hk'] at h1
    rw [mkK_p hp, mkK_p hp'] at h2
    rw [mkK_a ha, mkK_a ha'] at h3
    rw [mkK_n, mkK_n] at h4
    rw [mkK_t, mkK_t] at h5
    exact ⟨h1, h2, h3, h4, h5⟩
  · rintro ⟨rfl, rfl, rfl, rfl, rfl⟩; rfl
theorem has_iff (p : Ky) (d : Int) (x : Ky) : has p d x = decide (0 ≤ d ∧ d ≤ 5 ∧ (d < 1 ∨ p.k = x.k) ∧ (d < 2 ∨ p.p = x.p) ∧ (d < 3 ∨ p.a = x.a) ∧ (d < 4 ∨ p.n = x.n) ∧ (d < 5 ∨ p.t = x.t)) := by
  unfold has
  rw [decide_eq_decide]
  refine and_congr_right fun h0 => and_congr_right fun h5 => ?_
  have a1 := p.k_lt; have a2 := p.p_lt; have a3 := p.a_lt
  have b1 := x.k_lt; have b2 := x.p_lt; have b3 := x.a_lt
  obtain rfl | rfl | rfl | rfl | rfl | rfl : d = 0 ∨ d = 1 ∨ d = 2 ∨ d = 3 ∨ d = 4 ∨ d = 5 := by omega
  · simp [upto]
  · simp [upto, mkK_inj a1 (show 0 < 256 by omega) (show 0 < 256 by omega) b1 (show 0 < 256 by omega) (show 0 < 256 by omega)]
  · simp [upto, mkK_inj a1 a2 (show 0 < 256 by omega) b1 b2 (show 0 < 256 by omega)]
  · simp [upto, mkK_inj a1 a2 a3 b1 b2 b3]
  · simp [upto, mkK_inj a1 a2 a3 b1 b2 b3]
  · simp only [upto]
    constructor
    · intro h
      have h : p = x := h
      subst h; simp
    · intro h
      have h : p.k = x.k ∧ p.p = x.p ∧ p.a = x.a ∧ p.n = x.n ∧ p.t = x.t := by simpa using h
      exact Ky.ext h.1 h.2.1 h.2.2.1 h.2.2.2.1 h.2.2.2.2
/-- Of a depth that is one: a key is of a prefix just if its bytes begin with the prefix's. -/
theorem has_take {p x : Ky} {d : Int} (h0 : 0 ≤ d) (h5 : d ≤ 5) : has p d x = decide (p.l.take (ends d) = x.l.take (ends d)) := by
  rw [has_iff, decide_eq_decide]
  have hn : ∀ y : Ky, y.l = y.k :: y.p :: y.a :: (y.n.l ++ y.t.l) := Ky.l_eq
  have e12 : ∀ y : Ky, (y.n.l ++ y.t.l).take 12 = y.n.l := fun y => by
    rw [List.take_append_of_le_length (by rw [y.n.len]; omega), List.take_of_length_le (by rw [y.n.len]; omega)]
  obtain rfl | rfl | rfl | rfl | rfl | rfl : d = 0 ∨ d = 1 ∨ d = 2 ∨ d = 3 ∨ d = 4 ∨ d = 5 := by omega
  · simp [ends]
  · rw [hn p, hn x]; simp [ends]
  · rw [hn p, hn x]; simp [ends]
  · rw [hn p, hn x]; simp [ends]
  · rw [hn p, hn x]
    show _ ↔ (p.k :: p.p :: p.a :: (p.n.l ++ p.t.l).take 12) = (x.k :: x.p :: x.a :: (x.n.l ++ x.t.l).take 12)
    rw [e12, e12]
    simp [Nm.D.Nm.eq_iff]
  · show _ ↔ p.l.take 25 = x.l.take 25
    rw [List.take_of_length_le (by rw [p.len]; omega), List.take_of_length_le (by rw [x.len]; omega)]
    constructor
    · intro h
      have h : p.k = x.k ∧ p.p = x.p ∧ p.a = x.a ∧ p.n = x.n ∧ p.t = x.t := by simpa using h
      rw [Ky.ext h.1 h.2.1 h.2.2.1 h.2.2.2.1 h.2.2.2.2]
    · intro h
      have := Ky.eq h
      subst this; simp
theorem ends_le (d : Int) : ends d ≤ 25 := by
  unfold ends
  split
  · omega
  · split
    · omega
    · split
      · omega
      · split
        · omega
        · split <;> omega
end D
theorem rS_sm (x y : D.Rk) : rS.sm x y = decide (x = y) := by unfold Shp.sm; congr
theorem kS_sm (x y : D.Ky) : kS.sm x y = decide (x = y) := by unfold Shp.sm; congr
end Go.Proofs.Ytkhjnfplcaffnaa
set_option linter.unusedVariables false
set_option linter.unusedSimpArgs false
set_option maxRecDepth 100000
namespace Go.Proofs.Ytkhjnfplcaffnaa
open Go.RowKit

theorem add_o (g o j : Nat) : (⟨g, o, none⟩ : Addr).add j = ⟨g, o + j, none⟩ := by simp [Addr.add]
/-- The parts of a key. -/
structure KF (w : World) (g o : Nat) (x : D.Ky) : Prop where
  k : w.cell? ⟨g, o, none⟩ = some (.int .u8 x.k)
  p : w.cell? ⟨g, o + 1, none⟩ = some (.int .u8 x.p)
  a : w.cell? ⟨g, o + 2, none⟩ = some (.int .u8 x.a)
  n : Nm.rd w ⟨g, o + 3, none⟩ = some x.n
  t : rd w ⟨g, o + 15, none⟩ = some x.t
theorem bys_get {l : List Nat} {i : Nat} (h : i < l.length) : (bys l)[i]? = some (.int .u8 ((l.getD i 0 : Nat) : Int)) := by
  simp [bys, List.getElem?_eq_getElem h, List.getD]
theorem kf_of {w : World} {g o : Nat} {x : D.Ky} (h : kS.rd w ⟨g, o, none⟩ = some x) : KF w g o x := by
  have hc : kS.At w ⟨g, o, none⟩ x := Shp.at_of h
  have hx := x.len
  have c : ∀ j u, (bys x.l)[j]? = some u → w.cell? ⟨g, o + j, none⟩ = some u := fun j u hu => by have := hc j u hu; rwa [add_o] at this
  refine ⟨c 0 _ (bys_get (by omega)), c 1 _ (bys_get (by omega)), c 2 _ (bys_get (by omega)), Nm.rd_of fun j u hu => ?_, rd_of fun j u hu => ?_⟩
  · rw [add_o, Nat.add_assoc]
    refine c (3 + j) u ?_
    have hj : j < 12 := by have := (List.getElem?_eq_some_iff.1 hu).1; rwa [bys_len, x.n.len] at this
    rw [show x.n.l = (x.l.drop 3).take 12 from rfl, ← bys_take, ← bys_drop, List.getElem?_take_of_lt hj, List.getElem?_drop] at hu
    exact hu
  · rw [add_o, Nat.add_assoc]
    refine c (15 + j) u ?_
    rw [show x.t.l = x.l.drop 15 from rfl, ← bys_drop, List.getElem?_drop] at hu
    exact hu
theorem kf0 {w : World} {g : Nat} {x : D.Ky} (h : kS.rd w ⟨g, 0, none⟩ = some x) : w.cell? ⟨g, 0, none⟩ = some (.int .u8 x.k) ∧ w.cell? ⟨g, 1, none⟩ = some (.int .u8 x.p) ∧ w.cell? ⟨g, 2, none⟩ = some (.int .u8 x.a) ∧ Nm.rd w ⟨g, 3, none⟩ = some x.n ∧ rd w ⟨g, 15, none⟩ = some x.t := by
  obtain ⟨h1, h2, h3, h4, h5⟩ := kf_of h
  simp only [Nat.zero_add] at h2 h3 h4 h5
  exact ⟨h1, h2, h3, h4, h5⟩
theorem rf0 {w : World} {g : Nat} {x : D.Rk} (h : rS.rd w ⟨g, 0, none⟩ = some x) : w.cell? ⟨g, 0, none⟩ = some (.int .i64 x.k) ∧ w.cell? ⟨g, 1, none⟩ = some (.int .i64 x.p) ∧ w.cell? ⟨g, 2, none⟩ = some (.int .i64 x.a) ∧ Nm.rd w ⟨g, 3, none⟩ = some x.n ∧ rd w ⟨g, 15, none⟩ = some x.t := by
  have hc : rS.At w ⟨g, 0, none⟩ x := Shp.at_of h
  have c : ∀ j u, (rcells x)[j]? = some u → w.cell? ⟨g, j, none⟩ = some u := fun j u hu => by have := hc j u hu; rwa [add_o, Nat.zero_add] at this
  refine ⟨c 0 _ rfl, c 1 _ rfl, c 2 _ rfl, Nm.rd_of fun j u hu => ?_, rd_of fun j u hu => ?_⟩
  · rw [add_o]
    refine c (3 + j) u ?_
    have hj := (List.getElem?_eq_some_iff.1 hu).1
    rw [Nat.add_comm]
    show (bys x.n.l ++ bys x.t.l)[j]? = _
    rw [List.getElem?_append_left hj, hu]
  · rw [add_o]
    refine c (15 + j) u ?_
    rw [show 15 + j = (12 + j) + 3 by omega]
    show (bys x.n.l ++ bys x.t.l)[12 + j]? = _
    have hn : (bys x.n.l).length = 12 := by rw [bys_len, x.n.len]
    rw [List.getElem?_append_right (by omega), hn, Nat.add_sub_cancel_left, hu]
theorem pf0 {w : World} {g : Nat} {q : D.Px} (h : pS.rd w ⟨g, 0, none⟩ = some q) : kS.rd w ⟨g, 0, none⟩ = some q.x ∧ w.cell? ⟨g, 25, none⟩ = some (.int .i64 q.d) := by
  have hc : pS.At w ⟨g, 0, none⟩ q := Shp.at_of h
  have hn : (bys q.x.l).length = 25 := by rw [bys_len, q.x.len]
  have c : ∀ j u, (pcells q)[j]? = some u → w.cell? ((⟨g, 0, none⟩ : Addr).add j) = some u := hc
  refine ⟨Shp.rd_of fun j u hu => c j u ?_, ?_⟩
  · have hu : (bys q.x.l)[j]? = some u := hu
    have hj := (List.getElem?_eq_some_iff.1 hu).1
    rw [pcells, List.getElem?_append_left hj, hu]
  · have := c 25 (.int .i64 q.d) (by rw [pcells, List.getElem?_append_right (by omega), hn]; rfl)
    rwa [add_o, Nat.zero_add] at this

noncomputable def bdk (ps : Array (Nat × Value)) : Sem Value := Instr.build 30 ps
noncomputable def bdr (ps : Array (Nat × Value)) : Sem Value := Instr.build 40 ps
noncomputable def bdp (ps : Array (Nat × Value)) : Sem Value := Instr.build 52 ps
noncomputable def bd25 (ps : Array (Nat × Value)) : Sem Value := Instr.build 101 ps
theorem bd_k (ps : Array (Nat × Value)) : Instr.build 30 ps = bdk ps := rfl
theorem bd_r (ps : Array (Nat × Value)) : Instr.build 40 ps = bdr ps := rfl
theorem bd_p (ps : Array (Nat × Value)) : Instr.build 52 ps = bdp ps := rfl
theorem bd_25 (ps : Array (Nat × Value)) : Instr.build 101 ps = bd25 ps := rfl
theorem kv_mk {k p a : Nat} (n : Nm.D.Nm) (t : D.Tg) (hk : k < 256) (hp : p < 256) (ha : a < 256) : kS.v (D.mkK k p a n t) = ((Value.int .u8 k) :: (Value.int .u8 p) :: (Value.int .u8 a) :: (bys n.l ++ bys t.l)).toArray := by
  show (bys (k % 256 :: p % 256 :: a % 256 :: (n.l ++ t.l))).toArray = _
  rw [Nat.mod_eq_of_lt hk, Nat.mod_eq_of_lt hp, Nat.mod_eq_of_lt ha]
  simp [bys]
theorem run_bdk_z (w : World) : (bdk #[]).run Try.prog w = .ok (.agg (kS.v D.zK)) w := by
  simp [bdk, Instr.build, go_sem]
  rfl
theorem run_bdk_1 (w : World) (k : Nat) (hk : k < 256) : (bdk #[(0, .int .u8 (k : Int))]).run Try.prog w = .ok (.agg (kS.v (D.mkK k 0 0 Nm.D.zero D.zero))) w := by
  rw [kv_mk _ _ hk (by decide) (by decide)]
  simp [bdk, Instr.build, go_sem]
  rfl
theorem run_bdk_2 (w : World) (k p : Nat) (hk : k < 256) (hp : p < 256) : (bdk #[(0, .int .u8 (k : Int)), (1, .int .u8 (p : Int))]).run Try.prog w = .ok (.agg (kS.v (D.mkK k p 0 Nm.D.zero D.zero))) w := by
  rw [kv_mk _ _ hk hp (by decide)]
  simp [bdk, Instr.build, go_sem]
  rfl
theorem run_bdk_3 (w : World) (k p a : Nat) (hk : k < 256) (hp : p < 256) (ha : a < 256) : (bdk #[(0, .int .u8 (k : Int)), (1, .int .u8 (p : Int)), (2, .int .u8 (a : Int))]).run Try.prog w = .ok (.agg (kS.v (D.mkK k p a Nm.D.zero D.zero))) w := by
  rw [kv_mk _ _ hk hp ha]
  simp [bdk, Instr.build, go_sem]
  rfl
theorem run_bdk_4 (w : World) (k p a : Nat) (n : Nm.D.Nm) (hk : k < 256) (hp : p < 256) (ha : a < 256) : (bdk #[(0, .int .u8 (k : Int)), (1, .int .u8 (p : Int)), (2, .int .u8 (a : Int)), (3, .agg (Nm.nc n))]).run Try.prog w = .ok (.agg (kS.v (D.mkK k p a n D.zero))) w := by
  rw [kv_mk _ _ hk hp ha]
  obtain ⟨b0, b1, b2, b3, b4, b5, b6, b7, b8, b9, b10, b11, hn⟩ := Nm.twelve n
  have : bys n.l = [b0, b1, b2, b3, b4, b5, b6, b7, b8, b9, b10, b11] := by simpa [Nm.nc] using congrArg Array.toList hn
  rw [hn, this]
  simp [bdk, Instr.build, go_sem]
  rfl
/-- The same of a key's own parts. -/
theorem bdk1 (w : World) (x : D.Ky) : (bdk #[(0, .int .u8 (x.k : Int))]).run Try.prog w = .ok (.agg (kS.v (D.mkK x.k 0 0 Nm.D.zero D.zero))) w := run_bdk_1 w _ x.k_lt
theorem bdk2 (w : World) (x : D.Ky) : (bdk #[(0, .int .u8 (x.k : Int)), (1, .int .u8 (x.p : Int))]).run Try.prog w = .ok (.agg (kS.v (D.mkK x.k x.p 0 Nm.D.zero D.zero))) w := run_bdk_2 w _ _ x.k_lt x.p_lt
theorem bdk3 (w : World) (x : D.Ky) : (bdk #[(0, .int .u8 (x.k : Int)), (1, .int .u8 (x.p : Int)), (2, .int .u8 (x.a : Int))]).run Try.prog w = .ok (.agg (kS.v (D.mkK x.k x.p x.a Nm.D.zero D.zero))) w := run_bdk_3 w _ _ _ x.k_lt x.p_lt x.a_lt
theorem bdk4 (w : World) (x : D.Ky) : (bdk #[(0, .int .u8 (x.k : Int)), (1, .int .u8 (x.p : Int)), (2, .int .u8 (x.a : Int)), (3, .agg (Nm.nc x.n))]).run Try.prog w = .ok (.agg (kS.v (D.mkK x.k x.p x.a x.n D.zero))) w := run_bdk_4 w _ _ _ _ x.k_lt x.p_lt x.a_lt
theorem run_bdr_z (w : World) : (bdr #[]).run Try.prog w = .ok (.agg (rS.v D.zR)) w := by
  simp [bdr, Instr.build, go_sem]
  rfl
theorem bdp_list (w : World) (d : Int) : ∀ l : List Value, l.length = 25 → (bdp #[(0, .agg l.toArray), (1, .int .i64 d)]).run Try.prog w = .ok (.agg (l ++ [Value.int .i64 d]).toArray) w
  | [a0, a1, a2, a3, a4, a5, a6, a7, a8, a9, a10, a11, a12, a13, a14, a15, a16, a17, a18, a19, a20, a21, a22, a23, a24], _ => by
    simp [bdp, Instr.build, go_sem]
theorem run_bdp (w : World) (x : D.Ky) (d : Int) (hd : -9223372036854775808 ≤ d ∧ d ≤ 9223372036854775807) : (bdp #[(0, .agg (kS.v x)), (1, .int .i64 d)]).run Try.prog w = .ok (.agg (pS.v ⟨x, d, hd⟩)) w := bdp_list w d (bys x.l) (by rw [bys_len, x.len])
/-- Parts stored into a key that was made last. -/
theorem kset_a (k p a : Nat) (n : Nm.D.Nm) (t : D.Tg) (b : Nat) (hb : b < 256) : (kS.v (D.mkK k p a n t)).setIfInBounds 2 (.int .u8 (b : Int)) = kS.v (D.mkK k p b n t) := by
  show Array.setIfInBounds (bys (k % 256 :: p % 256 :: a % 256 :: (n.l ++ t.l))).toArray 2 (Value.int .u8 (b : Int)) = (bys (k % 256 :: p % 256 :: b % 256 :: (n.l ++ t.l))).toArray
  rw [Nat.mod_eq_of_lt hb]
  simp [bys]
theorem setRow_new (w : World) (g : Nat) (cs cs' : Array Value) (t : TypeId) (h : g = w.heap.size) : (w.alloc (.cells cs t)).setRow g cs' = w.alloc (.cells cs' t) := setRow_alloc w g cs cs' t h
theorem run_stn3 (w : World) (g k p a : Nat) (n m : Nm.D.Nm) (t : D.Tg) (ty : TypeId) (h : g = w.heap.size) :
    (Nm.st 24 (.pointer (some ⟨g, 3, none⟩)) (.agg (Nm.nc m))).run Try.prog (w.alloc (.cells (kS.v (D.mkK k p a n t)) ty)) = .ok () (w.alloc (.cells (kS.v (D.mkK k p a m t)) ty)) := by
  subst h
  have hs := run_storeCells_at (P := Try.prog) w.heap.size 3 ty (bys m.l) 0 (kS.v (D.mkK k p a n t)) (w.alloc (.cells (kS.v (D.mkK k p a n t)) ty)) (heap_alloc_new w _) (by rw [kS.v_size, bys_len, m.len]; decide) (bys_one m.l)
  have e : ((kS.v (D.mkK k p a n t)).toList.take (3 + 0) ++ bys m.l ++ (kS.v (D.mkK k p a n t)).toList.drop (3 + 0 + (bys m.l).length)).toArray = kS.v (D.mkK k p a m t) := by
    rw [bys_len, m.len]
    show ((bys (k % 256 :: p % 256 :: a % 256 :: (n.l ++ t.l))).take 3 ++ bys m.l ++ (bys (k % 256 :: p % 256 :: a % 256 :: (n.l ++ t.l))).drop 15).toArray = (bys (k % 256 :: p % 256 :: a % 256 :: (m.l ++ t.l))).toArray
    rw [bys_drop, show (k % 256 :: p % 256 :: a % 256 :: (n.l ++ t.l)).drop 15 = (n.l ++ t.l).drop 12 from rfl, show 12 = n.l.length from n.len.symm, List.drop_left]
    simp [bys]
  rw [e, setRow_alloc _ _ _ _ _ rfl] at hs
  simp only [Nm.st, Instr.storeAt, Instr.sureAddr, Sem.run_bind, Sem.run_pure, Result.andThen_ok]
  have hi : (Try.prog.info? 24).map (·.size) = some 12 := by kernel_rfl
  cases hq : Try.prog.info? 24 with
  | none => simp [hq] at hi
  | some i =>
    have hsz : i.size = 12 := by simpa [hq] using hi
    simp [storeVar, sizeOf, typeInfo, hq, Value.cells, Nm.nc_size, hsz]
    exact hs
theorem run_stt15 (w : World) (g k p a : Nat) (n : Nm.D.Nm) (t m : D.Tg) (ty : TypeId) (h : g = w.heap.size) :
    (st 28 (.pointer (some ⟨g, 15, none⟩)) (.agg (nc m))).run Try.prog (w.alloc (.cells (kS.v (D.mkK k p a n t)) ty)) = .ok () (w.alloc (.cells (kS.v (D.mkK k p a n m)) ty)) := by
  subst h
  have hs := run_storeCells_at (P := Try.prog) w.heap.size 15 ty (bys m.l) 0 (kS.v (D.mkK k p a n t)) (w.alloc (.cells (kS.v (D.mkK k p a n t)) ty)) (heap_alloc_new w _) (by rw [kS.v_size, bys_len, m.len]; decide) (bys_one m.l)
  have e : ((kS.v (D.mkK k p a n t)).toList.take (15 + 0) ++ bys m.l ++ (kS.v (D.mkK k p a n t)).toList.drop (15 + 0 + (bys m.l).length)).toArray = kS.v (D.mkK k p a n m) := by
    rw [bys_len, m.len]
    show ((bys (k % 256 :: p % 256 :: a % 256 :: (n.l ++ t.l))).take 15 ++ bys m.l ++ (bys (k % 256 :: p % 256 :: a % 256 :: (n.l ++ t.l))).drop 25).toArray = (bys (k % 256 :: p % 256 :: a % 256 :: (n.l ++ m.l))).toArray
    have h1 : (k % 256 :: p % 256 :: a % 256 :: (n.l ++ t.l)).take 15 = k % 256 :: p % 256 :: a % 256 :: n.l := by
      show k % 256 :: p % 256 :: a % 256 :: (n.l ++ t.l).take 12 = _
      rw [show 12 = n.l.length from n.len.symm, List.take_left]
    rw [bys_take, h1, bys_drop, List.drop_of_length_le (by simp [n.len, t.len])]
    simp [bys]
  rw [e, setRow_alloc _ _ _ _ _ rfl] at hs
  simp only [st, Instr.storeAt, Instr.sureAddr, Sem.run_bind, Sem.run_pure, Result.andThen_ok]
  have hi : (Try.prog.info? 28).map (·.size) = some 10 := by kernel_rfl
  cases hq : Try.prog.info? 28 with
  | none => simp [hq] at hi
  | some i =>
    have hsz : i.size = 10 := by simpa [hq] using hi
    simp [storeVar, sizeOf, typeInfo, hq, Value.cells, nc_size, hsz]
    exact hs
theorem below_up {B : Nat} {w0 w w' : World} (h : Below B w0 w) (hs : B ≤ w.heap.size) (hb : Below w.heap.size w w') : Below B w0 w' := h.trans (hb.mono hs)
/-- The zero values' cells. -/
abbrev z25 : Array Value := #[.int .u8 0, .int .u8 0, .int .u8 0, .int .u8 0, .int .u8 0, .int .u8 0, .int .u8 0, .int .u8 0, .int .u8 0, .int .u8 0, .int .u8 0, .int .u8 0, .int .u8 0, .int .u8 0, .int .u8 0, .int .u8 0, .int .u8 0, .int .u8 0, .int .u8 0, .int .u8 0, .int .u8 0, .int .u8 0, .int .u8 0, .int .u8 0, .int .u8 0]
theorem kz : kS.v D.zK = z25 := rfl
end Go.Proofs.Ytkhjnfplcaffnaa
