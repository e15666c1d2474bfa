/-
  Rows of tags in memory; a slice of tags that the call made; append; what lies in a tag's variable, written and read whole; a tag's three parts.
-/
import Derived.Test.YtgobbdfgjgjigaaGreatDoorCel
import Derived.Laws.ResultCell
import Derived.Laws.Rows
set_option linter.unusedVariables false
set_option linter.unusedSimpArgs false
namespace Go.Proofs.YtgobbdfgjgjigaaGreatDoor
open Go.RowKit

/-- The cells of names in a row. -/
def ncs (l : List D.Tg) : List Value := l.flatMap fun x => bys x.l
theorem ncs_cons (x : D.Tg) (l : List D.Tg) : ncs (x :: l) = bys x.l ++ ncs l := rfl
theorem ncs_len (l : List D.Tg) : (ncs l).length = l.length * 10 := by
  induction l with
  | nil => rfl
  | cons x l ih => rw [ncs_cons, List.length_append, ih, bys_len, x.len, List.length_cons]; omega
/-- A slice of names, nil let in. -/
structure NRow (w : World) (A : Option Addr) (n : Nat) (l : List D.Tg) : Prop where
  len : l.length = n
  tow : 0 < n → ∃ ad, A = some ad ∧ ad.block < w.heap.size ∧ ∀ i x, l[i]? = some x → At w (ad.add (i * 10)) x
section
variable {w w' : World} {A : Option Addr} {n : Nat} {l : List D.Tg}
theorem NRow.nil (w : World) (A : Option Addr) : NRow w A 0 [] := ⟨rfl, fun h => absurd h (by omega)⟩
theorem NRow.kept (h : NRow w A n l) (hs : w.heap.size ≤ w'.heap.size) (hk : ∀ ad, A = some ad → w'.heap[ad.block]? = w.heap[ad.block]?) : NRow w' A n l := ⟨h.len, fun hn => by
  obtain ⟨ad, e, hl, hc⟩ := h.tow hn
  exact ⟨ad, e, Nat.lt_of_lt_of_le hl hs, fun i x hx => (hc i x hx).tow (by rw [block_of_add]; exact hk ad e)⟩⟩
theorem NRow.on (h : NRow w A n l) (hb : Below w.heap.size w w') : NRow w' A n l := ⟨h.len, fun hn => by
  obtain ⟨ad, e, hl, hc⟩ := h.tow hn
  exact ⟨ad, e, Nat.lt_of_lt_of_le hl hb.size, fun i x hx => (hc i x hx).tow (by rw [block_of_add]; exact hb.block _ hl)⟩⟩
theorem NRow.drewN (h : NRow w A n l) (k : Nat) : NRow (w.drewN k) A n l := h.on ⟨rfl, rfl, rfl, Nat.le_refl _, fun _ _ => rfl⟩
theorem NRow.alloc (h : NRow w A n l) (o : Obj) : NRow (w.alloc o) A n l := h.on ((Below.refl _ _).alloc (Nat.le_refl _) o)
theorem NRow.rd {i : Nat} {x : D.Tg} (h : NRow w A n l) (hx : l[i]? = some x) : ∃ ad, A = some ad ∧ ad.block < w.heap.size ∧ rd w (ad.add (i * 10)) = some x := by
  have := (List.getElem?_eq_some_iff.1 hx).1
  obtain ⟨ad, e, hl, hc⟩ := h.tow (by have := h.len; omega)
  exact ⟨ad, e, hl, rd_of (hc i x hx)⟩
theorem NRow.cut (h : NRow w A n l) {k cap : Nat} (hk : k ≤ n) (hc : n ≤ cap) : NRow w (if cap = k then A else A.map (·.add (k * 10))) (n - k) (l.drop k) :=
  ⟨by have := h.len; simp; omega, fun hn => by
    obtain ⟨ad, rfl, hb, hcell⟩ := h.tow (by omega)
    rw [if_neg (by omega)]
    refine ⟨ad.add (k * 10), rfl, by rw [block_of_add]; exact hb, fun i x hx => ?_⟩
    rw [add_of_add, ← Nat.add_mul]
    exact hcell _ x (by rw [← hx, List.getElem?_drop])⟩
theorem NRow.take (h : NRow w A n l) {k : Nat} (hk : k ≤ n) : NRow w A k (l.take k) :=
  ⟨by have := h.len; simp; omega, fun h0 => by
    obtain ⟨ad, e, hl, hc⟩ := h.tow (by omega)
    refine ⟨ad, e, hl, fun i x hx => hc i x ?_⟩
    rw [List.getElem?_take] at hx
    split at hx
    · exact hx
    · cases hx⟩
end

/-- A slice of names of the call's own, or nil. -/
structure NOwn (base e : Nat) (w : World) (A : Option Addr) (n c : Nat) (l : List D.Tg) : Prop where
  row : w.ownsRow base e 10 (.slice A n c) n (ncs l)
  base : base ≤ w.heap.size
section
variable {base e n c : Nat} {w w' : World} {A : Option Addr} {l : List D.Tg}
theorem NOwn.len (h : NOwn base e w A n c l) : l.length = n := by have := h.row.1; rw [ncs_len] at this; omega
theorem NOwn.cap (h : NOwn base e w A n c l) : n ≤ c ∧ c ≤ maxLen := by
  rcases h.row.2 with ⟨e, h0⟩ | ⟨g, cap, cur, e, _, _, h1, h2, _⟩
  · injection e with _ _ e2
    exact ⟨by omega, by rw [e2]; exact Nat.zero_le _⟩
  · injection e with _ _ e2
    subst e2
    exact ⟨h1, h2⟩
theorem NOwn.nil (h : base ≤ w.heap.size) : NOwn base e w none 0 0 [] := ⟨World.ownsRow_nil _ _ _ _, h⟩
theorem NOwn.kept (h : NOwn base e w A n c l) (hs : w.heap.size ≤ w'.heap.size) (hk : ∀ g, (Value.slice A n c).ownBlock = some g → w'.heap[g]? = w.heap[g]?) : NOwn base e w' A n c l := by
  refine ⟨⟨h.row.1, ?_⟩, Nat.le_trans h.base hs⟩
  rcases h.row.2 with hn | ⟨g, cap, cur, e, hg, hh, r⟩
  · exact .inl hn
  · refine .inr ⟨g, cap, cur, e, hg, ?_, r⟩
    rw [hk g (by rw [e]; rfl)]
    exact hh
theorem NOwn.lt (h : NOwn base e w A n c l) : ∀ k, (Value.slice A n c).ownBlock = some k → base ≤ k ∧ k < w.heap.size := h.row.lt
theorem NOwn.on (h : NOwn base e w A n c l) (hb : Below w.heap.size w w') : NOwn base e w' A n c l := h.kept hb.size fun g hg => hb.block g (h.lt g hg).2
theorem NOwn.drewN (h : NOwn base e w A n c l) (k : Nat) : NOwn base e (w.drewN k) A n c l := ⟨h.row, h.base⟩
theorem NOwn.alloc (h : NOwn base e w A n c l) (o : Obj) : NOwn base e (w.alloc o) A n c l := h.on ((Below.refl _ _).alloc (Nat.le_refl _) o)
theorem NOwn.low {b : Nat} (h : NOwn base e w A n c l) (hb : b ≤ base) : NOwn b e w A n c l := by
  refine ⟨⟨h.row.1, ?_⟩, Nat.le_trans hb h.base⟩
  rcases h.row.2 with hz | ⟨g, cap, cur, e, hg, r⟩
  · exact .inl hz
  · exact .inr ⟨g, cap, cur, e, Nat.le_trans hb hg, r⟩
end

section
variable (w : World)
end

theorem ten (x : D.Tg) : ∃ a b c d e f g h i j : Value, nc x = #[a, b, c, d, e, f, g, h, i, j] := by
  have := x.len
  match hx : x.l, this with
  | [a, b, c, d, e, f, g, h, i, j], _ => exact ⟨_, _, _, _, _, _, _, _, _, _, by rw [nc, hx]; rfl⟩
abbrev z10 : Array Value := #[.int .u8 0, .int .u8 0, .int .u8 0, .int .u8 0, .int .u8 0, .int .u8 0, .int .u8 0, .int .u8 0, .int .u8 0, .int .u8 0]
theorem st_z (p : Value) : st 28 p (.agg #[.int .u8 0, .int .u8 0, .int .u8 0, .int .u8 0, .int .u8 0, .int .u8 0, .int .u8 0, .int .u8 0, .int .u8 0, .int .u8 0]) = st 28 p (.agg (nc D.zero)) := rfl
theorem ne_z (v : Value) : ne10 28 v (.agg #[.int .u8 0, .int .u8 0, .int .u8 0, .int .u8 0, .int .u8 0, .int .u8 0, .int .u8 0, .int .u8 0, .int .u8 0, .int .u8 0]) = ne10 28 v (.agg (nc D.zero)) := rfl
theorem eq_z (v : Value) : eq10 28 v (.agg #[.int .u8 0, .int .u8 0, .int .u8 0, .int .u8 0, .int .u8 0, .int .u8 0, .int .u8 0, .int .u8 0, .int .u8 0, .int .u8 0]) = eq10 28 v (.agg (nc D.zero)) := rfl
/-- A tag out of a result's variable. -/
noncomputable def lv (t : TypeId) (a : Addr) : Sem Value := loadVar t a
theorem lv_a (a : Addr) : loadVar 40 a = lv 40 a := rfl
theorem lv_n (a : Addr) : loadVar 28 a = lv 28 a := rfl
theorem run_lv (w : World) (a : Addr) (t : TypeId) (ht : t = 40 ∨ t = 28) : (lv t a).run Tryz.prog w = (rd w a).elim (bad t a w) fun x => .ok (.agg (nc x)) w := by
  rw [← run_ld w a t ht]
  simp only [lv, ld, Instr.loadAt, Instr.sureAddr, Sem.run_bind, Sem.run_pure, Result.andThen_ok]
theorem run_lv_a (w : World) (a : Addr) : (lv 40 a).run Tryz.prog w = (rd w a).elim (bad 40 a w) fun x => .ok (.agg (nc x)) w := run_lv w a _ (.inl rfl)
theorem run_lv_n (w : World) (a : Addr) : (lv 28 a).run Tryz.prog w = (rd w a).elim (bad 28 a w) fun x => .ok (.agg (nc x)) w := run_lv w a _ (.inr rfl)

theorem lv_of {w : World} {a : Addr} {x : D.Tg} (h : rd w a = some x) : (loadVar 28 a).run Tryz.prog w = .ok (.agg (nc x)) w := (run_lv_n w a).trans (by rw [h]; rfl)
theorem Blk.c {w : World} {g : Nat} {t : TypeId} {cs : Array Value} (h : Blk w g t cs) (i : Nat) : w.cell? ⟨g, i, none⟩ = cs[i]? := cell_of_row w g i cs t (0, 0) h.out
theorem Blk.f {w : World} {g : Nat} {t : TypeId} {cs : Array Value} (h : Blk w g t cs) (i : Nat) : w.frozen? ⟨g, i, none⟩ = false := by
  have := h.out
  simp [World.frozen?, this]
theorem Blk.put {w : World} {g : Nat} {t : TypeId} {cs : Array Value} (h : Blk w g t cs) (i : Nat) (u : Value) : Blk (w.setCell ⟨g, i, none⟩ u) g t (cs.setIfInBounds i u) := by
  have := h.out
  exact ⟨by simp [World.setCell, Array.getElem?_modify, this]⟩
theorem Blk.far {w : World} {g : Nat} {t : TypeId} {cs : Array Value} (h : Blk w g t cs) {p : Addr} (hp : g ≠ p.block) (u : Value) : Blk (w.setCell p u) g t cs := ⟨(Below.heap_setCell w p u g hp).trans h.out⟩
theorem below_drewN {B : Nat} {a w : World} (h : Below B a w) (n : Nat) : Below B a (w.drewN n) := ⟨h.os, h.tape, h.output, h.size, h.block⟩
theorem below_alloc_ (w : World) (o : Obj) : Below w.heap.size w (w.alloc o) := (Below.refl _ _).alloc (Nat.le_refl _) o
/-- A whole name into a block that is known whole. -/
theorem st_blk {w : World} {g t : TypeId} {cs : Array Value} (ht : t = 40 ∨ t = 28) (h : Blk w g t cs) (hs : cs.size = 10) (x : D.Tg) :
    ∃ w', (st t (.pointer (some ⟨g, 0, none⟩)) (.agg (nc x))).run Tryz.prog w = .ok () w' ∧ Blk w' g t (nc x) ∧ w.grownBy w' (some g) := by
  have hr : (storeVar t ⟨g, 0, none⟩ (.agg (nc x))).run Tryz.prog w = .ok () (w.setRow g (nc x)) :=
    run_storeVar_row (P := Tryz.prog) w g t t cs (nc x) h.out (by rcases ht with rfl | rfl <;> (rw [nc_size]; kernel_rfl)) (by rw [nc_size, hs]) (nc_one x)
  refine ⟨w.setRow g (nc x), ?_, ⟨?_⟩, ⟨rfl, rfl, rfl, by simp [World.setRow], fun i _ hi => ?_⟩⟩
  · simp only [st, Instr.storeAt, Instr.sureAddr, Sem.run_bind, Sem.run_pure, Result.andThen_ok]
    exact hr
  · have := h.out
    simp [World.setRow, Array.getElem?_modify, this]
  · have hne : ¬ g = i := fun e => hi (by rw [e])
    simp [World.setRow, Array.getElem?_modify, hne]

/-- Is a block one of ten cells? -/
def Ten (w : World) (g : Nat) : Prop := ∃ t cs, Blk w g t cs ∧ cs.size = 10
open Classical in
noncomputable def tn (w : World) (g : Nat) : Bool := decide (Ten w g)
theorem tn_of {w : World} {g : Nat} {t : TypeId} {cs : Array Value} (h : Blk w g t cs) (hs : cs.size = 10) : tn w g = true := by
  classical
  exact decide_eq_true (show Ten w g from ⟨t, cs, h, hs⟩)
theorem tn_blk {w : World} {g : Nat} (h : tn w g = true) : ∃ t cs, Blk w g t cs ∧ cs.size = 10 := by
  classical
  exact of_decide_eq_true (p := Ten w g) h
theorem tn_lt {w : World} {g : Nat} (h : tn w g = true) : g < w.heap.size := by
  obtain ⟨t, cs, hb, _⟩ := tn_blk h
  exact hb.lt
theorem tn_to {w w' : World} {g : Nat} (hk : w'.heap[g]? = w.heap[g]?) : tn w' g = tn w g := by
  unfold tn
  congr 1
  exact propext ⟨fun ⟨t, cs, h, hs⟩ => ⟨t, cs, ⟨hk.symm.trans h.out⟩, hs⟩, fun ⟨t, cs, h, hs⟩ => ⟨t, cs, ⟨hk.trans h.out⟩, hs⟩⟩
theorem tn_on {w w' : World} {g : Nat} (h : tn w g = true) (hb : Below w.heap.size w w') : tn w' g = true := (tn_to (hb.block _ (tn_lt h))).trans h
theorem tn_new (w : World) (n : Nat) (t : TypeId) (cs : Array Value) (h : n = w.heap.size) : tn (w.alloc (.cells cs t)) n = (cs.size == 10) := by
  subst h
  have hb := Blk.new w t cs
  by_cases hs : cs.size = 10
  · rw [tn_of hb hs]; simp [hs]
  · cases e : tn (w.alloc (.cells cs t)) w.heap.size
    · simp [hs]
    · obtain ⟨t', cs', h', hs'⟩ := tn_blk e
      have := h'.out
      rw [hb.out] at this
      injection this with this
      injection this with e1 e2
      subst e1
      exact absurd hs' hs
theorem tn_old (w : World) (g : Nat) (o : Obj) (h : g < w.heap.size) : tn (w.alloc o) g = tn w g := tn_to (Below.heap_alloc w o _ h)
theorem tn_drew (w : World) (g : Nat) : tn w.drew g = tn w g := tn_to rfl
theorem tn_drewN (w : World) (g n : Nat) : tn (w.drewN n) g = tn w g := tn_to rfl
theorem heap_setRow (w : World) (g k : Nat) (cs : Array Value) (h : k ≠ g) : (w.setRow g cs).heap[k]? = w.heap[k]? := setRow_other w g k cs h
theorem rd_set (w : World) (g : Nat) (x : D.Tg) (h : tn w g = true) : rd (w.setRow g (nc x)) ⟨g, 0, none⟩ = some x := by
  obtain ⟨t, cs, hb, hs⟩ := tn_blk h
  have := hb.out
  exact rd_blk (t := t) ⟨by simp [World.setRow, Array.getElem?_modify, this]⟩
theorem rd_far (w : World) (g : Nat) (cs : Array Value) (a : Addr) (h : a.block ≠ g) : rd (w.setRow g cs) a = rd w a := rd_to (heap_setRow w g _ cs h)
noncomputable def badst (t : TypeId) (g : Nat) (x : D.Tg) (w : World) : Result Unit := (Instr.storeAt t (.pointer (some ⟨g, 0, none⟩)) (.agg (nc x))).run Tryz.prog w
set_option maxRecDepth 100000 in
theorem run_sw (w : World) (t : TypeId) (ht : t = 40 ∨ t = 28) (g : Nat) (x : D.Tg) : (st t (.pointer (some ⟨g, 0, none⟩)) (.agg (nc x))).run Tryz.prog w = bif tn w g then .ok () (w.setRow g (nc x)) else badst t g x w := by
  cases h : tn w g with
  | false => rfl
  | true =>
    obtain ⟨t', cs, hb, hs⟩ := tn_blk h
    have hr : (storeVar t ⟨g, 0, none⟩ (.agg (nc x))).run Tryz.prog w = .ok () (w.setRow g (nc x)) :=
      run_storeVar_row (P := Tryz.prog) w g t' t cs (nc x) hb.out (by rcases ht with rfl | rfl <;> (rw [nc_size]; kernel_rfl)) (by rw [nc_size, hs]) (nc_one x)
    simp only [st, Instr.storeAt, Instr.sureAddr, Sem.run_bind, Sem.run_pure, Result.andThen_ok, cond_true]
    exact hr
theorem run_sw_a (w : World) (g : Nat) (x : D.Tg) : (st 40 (.pointer (some ⟨g, 0, none⟩)) (.agg (nc x))).run Tryz.prog w = bif tn w g then .ok () (w.setRow g (nc x)) else badst 40 g x w := run_sw w _ (.inl rfl) g x
theorem run_sw_n (w : World) (g : Nat) (x : D.Tg) : (st 28 (.pointer (some ⟨g, 0, none⟩)) (.agg (nc x))).run Tryz.prog w = bif tn w g then .ok () (w.setRow g (nc x)) else badst 28 g x w := run_sw w _ (.inr rfl) g x
theorem setRow_alloc (w : World) (n : Nat) (cs cs' : Array Value) (t : TypeId) (h : n = w.heap.size) : (w.alloc (.cells cs t)).setRow n cs' = w.alloc (.cells cs' t) := by
  subst h
  have := heap_alloc_new w (.cells cs t)
  simp only [World.setRow, World.alloc]
  congr 1
  apply Array.ext_getElem?
  intro k
  rw [Array.getElem?_modify]
  by_cases e : w.heap.size = k
  · subst e; simp
  · rw [if_neg e]
    by_cases h : k < w.heap.size
    · simp [Array.getElem?_push, h, Nat.ne_of_lt h]
    · rw [Array.getElem?_eq_none (by simp; omega), Array.getElem?_eq_none (by simp; omega)]

open Classical in
/-- The bytes of a part. -/
noncomputable def rp (w : World) (a : Addr) (n : Nat) : Option (List Nat) := if h : ∃ l : List Nat, l.length = n ∧ ∀ j u, (bys l)[j]? = some u → w.cell? (a.add j) = some u then some (Classical.choose h) else none
theorem rp_of {w : World} {a : Addr} {n : Nat} {l : List Nat} (hn : l.length = n) (hc : ∀ j u, (bys l)[j]? = some u → w.cell? (a.add j) = some u) : rp w a n = some l := by
  have hx : ∃ l : List Nat, l.length = n ∧ ∀ j u, (bys l)[j]? = some u → w.cell? (a.add j) = some u := ⟨l, hn, hc⟩
  rw [rp, dif_pos hx]
  congr 1
  obtain ⟨h1, h2⟩ := Classical.choose_spec hx
  refine bys_inj (List.ext_getElem? fun j => ?_)
  by_cases hj : j < n
  · have e1 : (bys (Classical.choose hx))[j]? = some ((bys (Classical.choose hx))[j]'(by rw [bys_len, h1]; exact hj)) := List.getElem?_eq_getElem _
    have e2 : (bys l)[j]? = some ((bys l)[j]'(by rw [bys_len, hn]; exact hj)) := List.getElem?_eq_getElem _
    have := (h2 j _ e1).symm.trans (hc j _ e2)
    rw [e1, e2, this]
  · rw [List.getElem?_eq_none (by rw [bys_len, h1]; omega), List.getElem?_eq_none (by rw [bys_len, hn]; omega)]
theorem rp_at {w : World} {a : Addr} {n : Nat} {l : List Nat} (h : rp w a n = some l) : l.length = n ∧ ∀ j u, (bys l)[j]? = some u → w.cell? (a.add j) = some u := by
  unfold rp at h
  split at h
  · rename_i hx
    injection h with h
    rw [← h]
    exact Classical.choose_spec hx
  · cases h
theorem add_at (g k j : Nat) : (⟨g, k, none⟩ : Addr).add j = ⟨g, k + j, none⟩ := by simp [Addr.add]
theorem rd_parts {w : World} {g : Nat} {x : D.Tg} (h : rd w ⟨g, 0, none⟩ = some x) : rp w ⟨g, 0, none⟩ 3 = some (D.pl x) ∧ rp w ⟨g, 3, none⟩ 4 = some (D.ps x) ∧ rp w ⟨g, 7, none⟩ 3 = some (D.pr x) := by
  have hx := x.len
  have hc := at_of h
  refine ⟨rp_of (by simp [D.pl]; omega) fun j u hu => ?_, rp_of (by simp [D.ps]; omega) fun j u hu => ?_, rp_of (by simp [D.pr]; omega) fun j u hu => ?_⟩
  · refine hc j u ?_
    rw [D.pl, ← bys_take, List.getElem?_take] at hu
    split at hu
    · exact hu
    · cases hu
  · rw [D.ps, ← bys_take, ← bys_drop, List.getElem?_take] at hu
    split at hu
    · rw [List.getElem?_drop] at hu
      have := hc (3 + j) u hu
      rw [add_at, Nat.zero_add] at this
      rw [add_at]
      exact this
    · cases hu
  · rw [D.pr, ← bys_drop, List.getElem?_drop] at hu
    have := hc (7 + j) u hu
    rw [add_at, Nat.zero_add] at this
    rw [add_at]
    exact this
noncomputable def lp (t : TypeId) (v : Value) : Sem Value := Instr.loadAt t v
noncomputable def badp (t : TypeId) (a : Addr) (w : World) : Result Value := (Instr.loadAt t (.pointer (some a))).run Tryz.prog w
theorem lp_3 (v : Value) : Instr.loadAt 25 v = lp 25 v := rfl
theorem lp_4 (v : Value) : Instr.loadAt 26 v = lp 26 v := rfl
def pv (l : List Nat) : Array Value := (bys l).toArray
set_option maxRecDepth 100000 in
theorem run_lp_3 (w : World) (a : Addr) : (lp 25 (.pointer (some a))).run Tryz.prog w = (rp w a 3).elim (badp 25 a w) fun l => .ok (.agg (pv l)) w := by
  cases h : rp w a 3 with
  | none => rfl
  | some l =>
    obtain ⟨hn, hc⟩ := rp_at h
    have hl := run_loadCells_list (P := Tryz.prog) w a (bys l) hc
    rw [bys_len, hn] at hl
    simp only [lp, Instr.loadAt, Instr.sureAddr, Sem.run_bind, Sem.run_pure, Result.andThen_ok, loadVar, Tryz.isAgg25, Tryz.sizeOf25, if_true, hl]
    rfl
set_option maxRecDepth 100000 in
theorem run_lp_4 (w : World) (a : Addr) : (lp 26 (.pointer (some a))).run Tryz.prog w = (rp w a 4).elim (badp 26 a w) fun l => .ok (.agg (pv l)) w := by
  cases h : rp w a 4 with
  | none => rfl
  | some l =>
    obtain ⟨hn, hc⟩ := rp_at h
    have hl := run_loadCells_list (P := Tryz.prog) w a (bys l) hc
    rw [bys_len, hn] at hl
    simp only [lp, Instr.loadAt, Instr.sureAddr, Sem.run_bind, Sem.run_pure, Result.andThen_ok, loadVar, Tryz.isAgg26, Tryz.sizeOf26, if_true, hl]
    rfl
end Go.Proofs.YtgobbdfgjgjigaaGreatDoor
