import Derived.Test.YtgnjjlgmlokhmaaGreatDoorG04
import Derived.Laws.ResultCell
import Derived.Laws.Rows
set_option linter.unusedVariables false
set_option linter.unusedSimpArgs false
namespace Go.Proofs.YtgnjjlgmlokhmaaGreatDoor
open Go.RowKit

def ncs (l : List D.Tg) : List Value := l.flatMap fun x => bys x.l
theorem ncs_cons (x : D.Tg) (l : List D.Tg) : ncs (x :: l) = bys x.l ++ ncs l := rfl
theorem ncs_len (l : List D.Tg) : (ncs l).length = l.length * 10 := by
 induction l with
 | nil => rfl
 | cons x l ih => rw [ncs_cons, List.length_append, ih, bys_len, x.len, List.length_cons]; omega
theorem ncs_at : ∀ {l : List D.Tg} {i : Nat} {x : D.Tg}, l[i]? = some x -> ∀ j u, (bys x.l)[j]? = some u -> (ncs l)[i * 10 + j]? = some u
 | [], i, x, h, j, u, hu => by simp at h
 | y :: l, 0, x, h, j, u, hu => by
  simp at h
  subst h
  have hj := (List.getElem?_eq_some_iff.1 hu).1
  rw [ncs_cons, Nat.zero_mul, Nat.zero_add, List.getElem?_append_left hj]
  exact hu
 | y :: l, i + 1, x, h, j, u, hu => by
  rw [ncs_cons, List.getElem?_append_right (by rw [bys_len, y.len]; omega), bys_len, y.len, show (i + 1) * 10 + j - 10 = i * 10 + j by omega]
  exact ncs_at (by simpa using h) j u hu
structure NRow (w : World) (A : Option Addr) (n : Nat) (l : List D.Tg) : Prop where
 len : l.length = n
 tow : 0 < n -> ∃ ad, A = some ad ∧ ad.block < w.heap.size ∧ ∀ i x, l[i]? = some x -> At w (ad.add (i * 10)) x
section
variable {w w' : World} {A : Option Addr} {n : Nat} {l : List D.Tg}
theorem NRow.nil (w : World) (A : Option Addr) : NRow w A 0 [] := ⟨rfl, fun h => absurd h (by omega)⟩
theorem NRow.kept (h : NRow w A n l) (hs : w.heap.size <= w'.heap.size) (hk : ∀ ad, A = some ad -> w'.heap[ad.block]? = w.heap[ad.block]?) : NRow w' A n l := ⟨h.len, fun hn => by
 obtain ⟨ad, e, hl, hc⟩ := h.tow hn
 exact ⟨ad, e, Nat.lt_of_lt_of_le hl hs, fun i x hx => (hc i x hx).tow (by rw [block_of_add]; exact hk ad e)⟩⟩
theorem NRow.on (h : NRow w A n l) (hb : Below w.heap.size w w') : NRow w' A n l := ⟨h.len, fun hn => by
 obtain ⟨ad, e, hl, hc⟩ := h.tow hn
 exact ⟨ad, e, Nat.lt_of_lt_of_le hl hb.size, fun i x hx => (hc i x hx).tow (by rw [block_of_add]; exact hb.block _ hl)⟩⟩
theorem NRow.drewN (h : NRow w A n l) (k : Nat) : NRow (w.drewN k) A n l := h.on ⟨rfl, rfl, rfl, Nat.le_refl _, fun _ _ => rfl⟩
theorem NRow.alloc (h : NRow w A n l) (o : Obj) : NRow (w.alloc o) A n l := h.on ((Below.refl _ _).alloc (Nat.le_refl _) o)
theorem NRow.rd {i : Nat} {x : D.Tg} (h : NRow w A n l) (hx : l[i]? = some x) : ∃ ad, A = some ad ∧ ad.block < w.heap.size ∧ rd w (ad.add (i * 10)) = some x := by
 have := (List.getElem?_eq_some_iff.1 hx).1
 obtain ⟨ad, e, hl, hc⟩ := h.tow (by have := h.len; omega)
 exact ⟨ad, e, hl, rd_of (hc i x hx)⟩
theorem NRow.cut (h : NRow w A n l) {k cap : Nat} (hk : k <= n) (hc : n <= cap) : NRow w (if cap = k then A else A.map (·.add (k * 10))) (n - k) (l.drop k) :=
 ⟨by have := h.len; simp; omega, fun hn => by
  obtain ⟨ad, rfl, hb, hcell⟩ := h.tow (by omega)
  rw [if_neg (by omega)]
  refine ⟨ad.add (k * 10), rfl, by rw [block_of_add]; exact hb, fun i x hx => ?_⟩
  rw [add_of_add, <- Nat.add_mul]
  exact hcell _ x (by rw [<- hx, List.getElem?_drop])⟩
theorem NRow.take (h : NRow w A n l) {k : Nat} (hk : k <= n) : NRow w A k (l.take k) :=
 ⟨by have := h.len; simp; omega, fun h0 => by
  obtain ⟨ad, e, hl, hc⟩ := h.tow (by omega)
  refine ⟨ad, e, hl, fun i x hx => hc i x ?_⟩
  rw [List.getElem?_take] at hx
  split at hx
  ·exact hx
  ·cases hx⟩
end

structure NOwn (base e : Nat) (w : World) (A : Option Addr) (n c : Nat) (l : List D.Tg) : Prop where
 row : w.ownsRow base e 10 (.slice A n c) n (ncs l)
 base : base <= w.heap.size
section
variable {base e n c : Nat} {w w' : World} {A : Option Addr} {l : List D.Tg}
theorem NOwn.len (h : NOwn base e w A n c l) : l.length = n := by have := h.row.1; rw [ncs_len] at this; omega
theorem NOwn.cap (h : NOwn base e w A n c l) : n <= c ∧ c <= maxLen := by
 rcases h.row.2 with ⟨e, h0⟩ | ⟨g, cap, cur, e, _, _, h1, h2, _⟩
 ·injection e with _ _ e2
  exact ⟨by omega, by rw [e2]; exact Nat.zero_le _⟩
 ·injection e with _ _ e2
  subst e2
  exact ⟨h1, h2⟩
theorem NOwn.to_row (h : NOwn base e w A n c l) : NRow w A n l :=
 ⟨h.len, fun hn => by
  obtain ⟨g, cap, e, _, hlt⟩ := h.row.form hn
  have hA : A = some ⟨g, 0, none⟩ := by injection e
  subst hA
  exact ⟨_, rfl, hlt, fun i x hx j u hu => by
   rw [add_of_add]
   exact h.row.cells (g := g) rfl _ _ (ncs_at hx j u hu)⟩⟩
theorem NOwn.nil (h : base <= w.heap.size) : NOwn base e w none 0 0 [] := ⟨World.ownsRow_nil _ _ _ _, h⟩
theorem NOwn.kept (h : NOwn base e w A n c l) (hs : w.heap.size <= w'.heap.size) (hk : ∀ g, (Value.slice A n c).ownBlock = some g -> w'.heap[g]? = w.heap[g]?) : NOwn base e w' A n c l := by
 refine ⟨⟨h.row.1, ?_⟩, Nat.le_trans h.base hs⟩
 rcases h.row.2 with hn | ⟨g, cap, cur, e, hg, hh, r⟩
 ·exact .inl hn
 ·refine .inr ⟨g, cap, cur, e, hg, ?_, r⟩
  rw [hk g (by rw [e]; rfl)]
  exact hh
theorem NOwn.lt (h : NOwn base e w A n c l) : ∀ k, (Value.slice A n c).ownBlock = some k -> base <= k ∧ k < w.heap.size := h.row.lt
theorem NOwn.on (h : NOwn base e w A n c l) (hb : Below w.heap.size w w') : NOwn base e w' A n c l := h.kept hb.size fun g hg => hb.block g (h.lt g hg).2
theorem NOwn.drewN (h : NOwn base e w A n c l) (k : Nat) : NOwn base e (w.drewN k) A n c l := ⟨h.row, h.base⟩
theorem NOwn.alloc (h : NOwn base e w A n c l) (o : Obj) : NOwn base e (w.alloc o) A n c l := h.on ((Below.refl _ _).alloc (Nat.le_refl _) o)
theorem NOwn.low {b : Nat} (h : NOwn base e w A n c l) (hb : b <= base) : NOwn b e w A n c l := by
 refine ⟨⟨h.row.1, ?_⟩, Nat.le_trans hb h.base⟩
 rcases h.row.2 with hz | ⟨g, cap, cur, e, hg, r⟩
 ·exact .inl hz
 ·exact .inr ⟨g, cap, cur, e, Nat.le_trans hb hg, r⟩
end

section
variable (w : World)
end

theorem ten (x : D.Tg) : ∃ a b c d e f g h i j : Value, nc x = #[a, b, c, d, e, f, g, h, i, j] := by
 have := x.len
 match hx : x.l, this with
 | [a, b, c, d, e, f, g, h, i, j], _ => exact ⟨_, _, _, _, _, _, _, _, _, _, by rw [nc, hx]; rfl⟩
abbrev z10 : Array Value := #[.int .u8 0, .int .u8 0, .int .u8 0, .int .u8 0, .int .u8 0, .int .u8 0, .int .u8 0, .int .u8 0, .int .u8 0, .int .u8 0]
theorem st_z (p : Value) : st 61 p (.agg #[.int .u8 0, .int .u8 0, .int .u8 0, .int .u8 0, .int .u8 0, .int .u8 0, .int .u8 0, .int .u8 0, .int .u8 0, .int .u8 0]) = st 61 p (.agg (nc D.zero)) := rfl
theorem ne_z (v : Value) : ne10 61 v (.agg #[.int .u8 0, .int .u8 0, .int .u8 0, .int .u8 0, .int .u8 0, .int .u8 0, .int .u8 0, .int .u8 0, .int .u8 0, .int .u8 0]) = ne10 61 v (.agg (nc D.zero)) := rfl
theorem eq_z (v : Value) : eq10 61 v (.agg #[.int .u8 0, .int .u8 0, .int .u8 0, .int .u8 0, .int .u8 0, .int .u8 0, .int .u8 0, .int .u8 0, .int .u8 0, .int .u8 0]) = eq10 61 v (.agg (nc D.zero)) := rfl
noncomputable def lv (t : TypeId) (a : Addr) : Sem Value := loadVar t a
theorem lv_a (a : Addr) : loadVar 61 a = lv 61 a := rfl
theorem lv_n (a : Addr) : loadVar 61 a = lv 61 a := rfl
theorem run_lv (w : World) (a : Addr) (t : TypeId) (ht : t = 61 ∨ t = 61) : (lv t a).run Tryz.prog w = (rd w a).elim (bad t a w) fun x => .ok (.agg (nc x)) w := by
 rw [<- run_ld w a t ht]
 simp only [lv, ld, Instr.loadAt, Instr.sureAddr, Sem.run_bind, Sem.run_pure, Result.andThen_ok]
theorem run_lv_a (w : World) (a : Addr) : (lv 61 a).run Tryz.prog w = (rd w a).elim (bad 61 a w) fun x => .ok (.agg (nc x)) w := run_lv w a _ (.inl rfl)
theorem run_lv_n (w : World) (a : Addr) : (lv 61 a).run Tryz.prog w = (rd w a).elim (bad 61 a w) fun x => .ok (.agg (nc x)) w := run_lv w a _ (.inr rfl)

theorem lv_of {w : World} {a : Addr} {x : D.Tg} (h : rd w a = some x) : (loadVar 61 a).run Tryz.prog w = .ok (.agg (nc x)) w := (run_lv_n w a).trans (by rw [h]; rfl)
theorem Blk.c {w : World} {g : Nat} {t : TypeId} {cs : Array Value} (h : Blk w g t cs) (i : Nat) : w.cell? ⟨g, i, none⟩ = cs[i]? := cell_of_row w g i cs t (0, 0) h.out
theorem Blk.f {w : World} {g : Nat} {t : TypeId} {cs : Array Value} (h : Blk w g t cs) (i : Nat) : w.frozen? ⟨g, i, none⟩ = false := by
 have := h.out
 simp [World.frozen?, this]
theorem Blk.put {w : World} {g : Nat} {t : TypeId} {cs : Array Value} (h : Blk w g t cs) (i : Nat) (u : Value) : Blk (w.setCell ⟨g, i, none⟩ u) g t (cs.setIfInBounds i u) := by
 have := h.out
 exact ⟨by simp [World.setCell, Array.getElem?_modify, this]⟩
theorem Blk.far {w : World} {g : Nat} {t : TypeId} {cs : Array Value} (h : Blk w g t cs) {p : Addr} (hp : g ≠ p.block) (u : Value) : Blk (w.setCell p u) g t cs := ⟨(Below.heap_setCell w p u g hp).trans h.out⟩
theorem Blk.ne_ {w : World} {g g' : Nat} {t t' : TypeId} {cs cs' : Array Value} (h : Blk w g t cs) (h' : Blk w g' t' cs') (hne : t ≠ t') : g ≠ g' := by
 rintro rfl
 have h1 := h.out
 rw [h'.out] at h1
 injection h1 with h1
 injection h1 with _ ht
 exact hne ht.symm
theorem below_drewN {B : Nat} {a w : World} (h : Below B a w) (n : Nat) : Below B a (w.drewN n) := ⟨h.os, h.tape, h.output, h.size, h.block⟩
theorem below_alloc_ (w : World) (o : Obj) : Below w.heap.size w (w.alloc o) := (Below.refl _ _).alloc (Nat.le_refl _) o
theorem st_blk {w : World} {g t : TypeId} {cs : Array Value} (ht : t = 61 ∨ t = 61) (h : Blk w g t cs) (hs : cs.size = 10) (x : D.Tg) :
  ∃ w', (st t (.pointer (some ⟨g, 0, none⟩)) (.agg (nc x))).run Tryz.prog w = .ok () w' ∧ Blk w' g t (nc x) ∧ w.grownBy w' (some g) := by
 have hr : (storeVar t ⟨g, 0, none⟩ (.agg (nc x))).run Tryz.prog w = .ok () (w.setRow g (nc x)) :=
  run_storeVar_row (P := Tryz.prog) w g t t cs (nc x) h.out (by rcases ht with rfl | rfl <;> (rw [nc_size]; kernel_rfl)) (by rw [nc_size, hs]) (nc_one x)
 refine ⟨w.setRow g (nc x), ?_, ⟨?_⟩, ⟨rfl, rfl, rfl, by simp [World.setRow], fun i _ hi => ?_⟩⟩
 ·simp only [st, Instr.storeAt, Instr.sureAddr, Sem.run_bind, Sem.run_pure, Result.andThen_ok]
  exact hr
 ·have := h.out
  simp [World.setRow, Array.getElem?_modify, this]
 ·have hne : ¬ g = i := fun e => hi (by rw [e])
  simp [World.setRow, Array.getElem?_modify, hne]

def Ten (w : World) (g : Nat) : Prop := ∃ t cs, Blk w g t cs ∧ cs.size = 10
open Classical in
noncomputable def tn (w : World) (g : Nat) : Bool := decide (Ten w g)
theorem tn_of {w : World} {g : Nat} {t : TypeId} {cs : Array Value} (h : Blk w g t cs) (hs : cs.size = 10) : tn w g = true := by
 classical
 exact decide_eq_true (show Ten w g from ⟨t, cs, h, hs⟩)
theorem tn_blk {w : World} {g : Nat} (h : tn w g = true) : ∃ t cs, Blk w g t cs ∧ cs.size = 10 := by
 classical
 exact of_decide_eq_true (p := Ten w g) h
theorem tn_lt {w : World} {g : Nat} (h : tn w g = true) : g < w.heap.size := by
 obtain ⟨t, cs, hb, _⟩ := tn_blk h
 exact hb.lt
theorem tn_to {w w' : World} {g : Nat} (hk : w'.heap[g]? = w.heap[g]?) : tn w' g = tn w g := by
 unfold tn
 congr 1
 exact propext ⟨fun ⟨t, cs, h, hs⟩ => ⟨t, cs, ⟨hk.symm.trans h.out⟩, hs⟩, fun ⟨t, cs, h, hs⟩ => ⟨t, cs, ⟨hk.trans h.out⟩, hs⟩⟩
theorem tn_on {w w' : World} {g : Nat} (h : tn w g = true) (hb : Below w.heap.size w w') : tn w' g = true := (tn_to (hb.block _ (tn_lt h))).trans h
theorem tn_new (w : World) (n : Nat) (t : TypeId) (cs : Array Value) (h : n = w.heap.size) : tn (w.alloc (.cells cs t)) n = (cs.size == 10) := by
 subst h
 have hb := Blk.new w t cs
 by_cases hs : cs.size = 10
 ·rw [tn_of hb hs]; simp [hs]
 ·cases e : tn (w.alloc (.cells cs t)) w.heap.size
  ·simp [hs]
  ·obtain ⟨t', cs', h', hs'⟩ := tn_blk e
   have := h'.out
   rw [hb.out] at this
   injection this with this
   injection this with e1 e2
   subst e1
   exact absurd hs' hs
theorem tn_old (w : World) (g : Nat) (o : Obj) (h : g < w.heap.size) : tn (w.alloc o) g = tn w g := tn_to (Below.heap_alloc w o _ h)
theorem tn_drew (w : World) (g : Nat) : tn w.drew g = tn w g := tn_to rfl
theorem tn_drewN (w : World) (g n : Nat) : tn (w.drewN n) g = tn w g := tn_to rfl
theorem heap_setRow (w : World) (g k : Nat) (cs : Array Value) (h : k ≠ g) : (w.setRow g cs).heap[k]? = w.heap[k]? := setRow_other w g k cs h
theorem rd_set (w : World) (g : Nat) (x : D.Tg) (h : tn w g = true) : rd (w.setRow g (nc x)) ⟨g, 0, none⟩ = some x := by
 obtain ⟨t, cs, hb, hs⟩ := tn_blk h
 have := hb.out
 exact rd_blk (t := t) ⟨by simp [World.setRow, Array.getElem?_modify, this]⟩
noncomputable def badst (t : TypeId) (g : Nat) (x : D.Tg) (w : World) : Result Unit := (Instr.storeAt t (.pointer (some ⟨g, 0, none⟩)) (.agg (nc x))).run Tryz.prog w
set_option maxRecDepth 100000 in
theorem run_sw (w : World) (t : TypeId) (ht : t = 61 ∨ t = 61) (g : Nat) (x : D.Tg) : (st t (.pointer (some ⟨g, 0, none⟩)) (.agg (nc x))).run Tryz.prog w = bif tn w g then .ok () (w.setRow g (nc x)) else badst t g x w := by
 cases h : tn w g with
 | false => rfl
 | true =>
  obtain ⟨t', cs, hb, hs⟩ := tn_blk h
  have hr : (storeVar t ⟨g, 0, none⟩ (.agg (nc x))).run Tryz.prog w = .ok () (w.setRow g (nc x)) :=
   run_storeVar_row (P := Tryz.prog) w g t' t cs (nc x) hb.out (by rcases ht with rfl | rfl <;> (rw [nc_size]; kernel_rfl)) (by rw [nc_size, hs]) (nc_one x)
  simp only [st, Instr.storeAt, Instr.sureAddr, Sem.run_bind, Sem.run_pure, Result.andThen_ok, cond_true]
  exact hr
theorem run_sw_a (w : World) (g : Nat) (x : D.Tg) : (st 61 (.pointer (some ⟨g, 0, none⟩)) (.agg (nc x))).run Tryz.prog w = bif tn w g then .ok () (w.setRow g (nc x)) else badst 61 g x w := run_sw w _ (.inl rfl) g x
theorem run_sw_n (w : World) (g : Nat) (x : D.Tg) : (st 61 (.pointer (some ⟨g, 0, none⟩)) (.agg (nc x))).run Tryz.prog w = bif tn w g then .ok () (w.setRow g (nc x)) else badst 61 g x w := run_sw w _ (.inr rfl) g x
theorem setRow_alloc (w : World) (n : Nat) (cs cs' : Array Value) (t : TypeId) (h : n = w.heap.size) : (w.alloc (.cells cs t)).setRow n cs' = w.alloc (.cells cs' t) := by
 subst h
 have := heap_alloc_new w (.cells cs t)
 simp only [World.setRow, World.alloc]
 congr 1
 apply Array.ext_getElem?
 intro k
 rw [Array.getElem?_modify]
 by_cases e : w.heap.size = k
 ·subst e; simp
 ·rw [if_neg e]
  by_cases h : k < w.heap.size
  ·simp [Array.getElem?_push, h, Nat.ne_of_lt h]
  ·rw [Array.getElem?_eq_none (by simp; omega), Array.getElem?_eq_none (by simp; omega)]

open Classical in
noncomputable def rp (w : World) (a : Addr) (n : Nat) : Option (List Nat) := if h : ∃ l : List Nat, l.length = n ∧ ∀ j u, (bys l)[j]? = some u -> w.cell? (a.add j) = some u then some (Classical.choose h) else none
theorem rp_of {w : World} {a : Addr} {n : Nat} {l : List Nat} (hn : l.length = n) (hc : ∀ j u, (bys l)[j]? = some u -> w.cell? (a.add j) = some u) : rp w a n = some l := by
 have hx : ∃ l : List Nat, l.length = n ∧ ∀ j u, (bys l)[j]? = some u -> w.cell? (a.add j) = some u := ⟨l, hn, hc⟩
 rw [rp, dif_pos hx]
 congr 1
 obtain ⟨h1, h2⟩ := Classical.choose_spec hx
 refine bys_inj (List.ext_getElem? fun j => ?_)
 by_cases hj : j < n
 ·have e1 : (bys (Classical.choose hx))[j]? = some ((bys (Classical.choose hx))[j]'(by rw [bys_len, h1]; exact hj)) := List.getElem?_eq_getElem _
  have e2 : (bys l)[j]? = some ((bys l)[j]'(by rw [bys_len, hn]; exact hj)) := List.getElem?_eq_getElem _
  have := (h2 j _ e1).symm.trans (hc j _ e2)
  rw [e1, e2, this]
 ·rw [List.getElem?_eq_none (by rw [bys_len, h1]; omega), List.getElem?_eq_none (by rw [bys_len, hn]; omega)]
theorem rp_at {w : World} {a : Addr} {n : Nat} {l : List Nat} (h : rp w a n = some l) : l.length = n ∧ ∀ j u, (bys l)[j]? = some u -> w.cell? (a.add j) = some u := by
 unfold rp at h
 split at h
 ·rename_i hx
  injection h with h
  rw [<- h]
  exact Classical.choose_spec hx
 ·cases h
theorem add_at (g k j : Nat) : (⟨g, k, none⟩ : Addr).add j = ⟨g, k + j, none⟩ := by simp [Addr.add]
theorem rd_parts {w : World} {g : Nat} {x : D.Tg} (h : rd w ⟨g, 0, none⟩ = some x) : rp w ⟨g, 0, none⟩ 3 = some (D.pl x) ∧ rp w ⟨g, 3, none⟩ 4 = some (D.ps x) ∧ rp w ⟨g, 7, none⟩ 3 = some (D.pr x) := by
 have hx := x.len
 have hc := at_of h
 refine ⟨rp_of (by simp [D.pl]; omega) fun j u hu => ?_, rp_of (by simp [D.ps]; omega) fun j u hu => ?_, rp_of (by simp [D.pr]; omega) fun j u hu => ?_⟩
 ·refine hc j u ?_
  rw [D.pl, <- bys_take, List.getElem?_take] at hu
  split at hu
  ·exact hu
  ·cases hu
 ·rw [D.ps, <- bys_take, <- bys_drop, List.getElem?_take] at hu
  split at hu
  ·rw [List.getElem?_drop] at hu
   have := hc (3 + j) u hu
   rw [add_at, Nat.zero_add] at this
   rw [add_at]
   exact this
  ·cases hu
 ·rw [D.pr, <- bys_drop, List.getElem?_drop] at hu
  have := hc (7 + j) u hu
  rw [add_at, Nat.zero_add] at this
  rw [add_at]
  exact this
noncomputable def lp (t : TypeId) (v : Value) : Sem Value := Instr.loadAt t v
noncomputable def badp (t : TypeId) (a : Addr) (w : World) : Result Value := (Instr.loadAt t (.pointer (some a))).run Tryz.prog w
theorem lp_3 (v : Value) : Instr.loadAt 58 v = lp 58 v := rfl
theorem lp_4 (v : Value) : Instr.loadAt 59 v = lp 59 v := rfl
def pv (l : List Nat) : Array Value := (bys l).toArray
set_option maxRecDepth 100000 in
theorem run_lp_3 (w : World) (a : Addr) : (lp 58 (.pointer (some a))).run Tryz.prog w = (rp w a 3).elim (badp 58 a w) fun l => .ok (.agg (pv l)) w := by
 cases h : rp w a 3 with
 | none => rfl
 | some l =>
  obtain ⟨hn, hc⟩ := rp_at h
  have hl := run_loadCells_list (P := Tryz.prog) w a (bys l) hc
  rw [bys_len, hn] at hl
  simp only [lp, Instr.loadAt, Instr.sureAddr, Sem.run_bind, Sem.run_pure, Result.andThen_ok, loadVar, Tryz.isAgg58, Tryz.sizeOf58, if_true, hl]
  rfl
set_option maxRecDepth 100000 in
theorem run_lp_4 (w : World) (a : Addr) : (lp 59 (.pointer (some a))).run Tryz.prog w = (rp w a 4).elim (badp 59 a w) fun l => .ok (.agg (pv l)) w := by
 cases h : rp w a 4 with
 | none => rfl
 | some l =>
  obtain ⟨hn, hc⟩ := rp_at h
  have hl := run_loadCells_list (P := Tryz.prog) w a (bys l) hc
  rw [bys_len, hn] at hl
  simp only [lp, Instr.loadAt, Instr.sureAddr, Sem.run_bind, Sem.run_pure, Result.andThen_ok, loadVar, Tryz.isAgg59, Tryz.sizeOf59, if_true, hl]
  rfl
end Go.Proofs.YtgnjjlgmlokhmaaGreatDoor
