import Derived.Test.YtgnjjlgmlokhmaaGreatDoorG14
import Derived.Laws.ResultCell
import Derived.Laws.Rows
set_option linter.unusedVariables false
set_option linter.unusedSimpArgs false
set_option maxRecDepth 100000
namespace Go.Proofs.YtgnjjlgmlokhmaaGreatDoor.Nm
open Go.RowKit

def ncs (l : List D.Nm) : List Value := l.flatMap fun x => bys x.l
theorem ncs_cons (x : D.Nm) (l : List D.Nm) : ncs (x :: l) = bys x.l ++ ncs l := rfl
theorem ncs_len (l : List D.Nm) : (ncs l).length = l.length * 12 := by
 induction l with
 | nil => rfl
 | cons x l ih => rw [ncs_cons, List.length_append, ih, bys_len, x.len, List.length_cons]; omega
theorem ncs_at : ∀ {l : List D.Nm} {i : Nat} {x : D.Nm}, l[i]? = some x -> ∀ j u, (bys x.l)[j]? = some u -> (ncs l)[i * 12 + j]? = some u
 | [], i, x, h, j, u, hu => by simp at h
 | y :: l, 0, x, h, j, u, hu => by
  simp at h
  subst h
  have hj := (List.getElem?_eq_some_iff.1 hu).1
  rw [ncs_cons, Nat.zero_mul, Nat.zero_add, List.getElem?_append_left hj]
  exact hu
 | y :: l, i + 1, x, h, j, u, hu => by
  rw [ncs_cons, List.getElem?_append_right (by rw [bys_len, y.len]; omega), bys_len, y.len, show (i + 1) * 12 + j - 12 = i * 12 + j by omega]
  exact ncs_at (by simpa using h) j u hu
structure NRow (w : World) (A : Option Addr) (n : Nat) (l : List D.Nm) : Prop where
 len : l.length = n
 tow : 0 < n -> ∃ ad, A = some ad ∧ ad.block < w.heap.size ∧ ∀ i x, l[i]? = some x -> At w (ad.add (i * 12)) x
section
variable {w w' : World} {A : Option Addr} {n : Nat} {l : List D.Nm}
theorem NRow.nil (w : World) (A : Option Addr) : NRow w A 0 [] := ⟨rfl, fun h => absurd h (by omega)⟩
theorem NRow.kept (h : NRow w A n l) (hs : w.heap.size <= w'.heap.size) (hk : ∀ ad, A = some ad -> w'.heap[ad.block]? = w.heap[ad.block]?) : NRow w' A n l := ⟨h.len, fun hn => by
 obtain ⟨ad, e, hl, hc⟩ := h.tow hn
 exact ⟨ad, e, Nat.lt_of_lt_of_le hl hs, fun i x hx => (hc i x hx).tow (by rw [block_of_add]; exact hk ad e)⟩⟩
theorem NRow.on (h : NRow w A n l) (hb : Below w.heap.size w w') : NRow w' A n l := ⟨h.len, fun hn => by
 obtain ⟨ad, e, hl, hc⟩ := h.tow hn
 exact ⟨ad, e, Nat.lt_of_lt_of_le hl hb.size, fun i x hx => (hc i x hx).tow (by rw [block_of_add]; exact hb.block _ hl)⟩⟩
theorem NRow.drewN (h : NRow w A n l) (k : Nat) : NRow (w.drewN k) A n l := h.on ⟨rfl, rfl, rfl, Nat.le_refl _, fun _ _ => rfl⟩
theorem NRow.alloc (h : NRow w A n l) (o : Obj) : NRow (w.alloc o) A n l := h.on ((Below.refl _ _).alloc (Nat.le_refl _) o)
theorem NRow.rd {i : Nat} {x : D.Nm} (h : NRow w A n l) (hx : l[i]? = some x) : ∃ ad, A = some ad ∧ ad.block < w.heap.size ∧ rd w (ad.add (i * 12)) = some x := by
 have := (List.getElem?_eq_some_iff.1 hx).1
 obtain ⟨ad, e, hl, hc⟩ := h.tow (by have := h.len; omega)
 exact ⟨ad, e, hl, rd_of (hc i x hx)⟩
theorem NRow.cut (h : NRow w A n l) {k cap : Nat} (hk : k <= n) (hc : n <= cap) : NRow w (if cap = k then A else A.map (·.add (k * 12))) (n - k) (l.drop k) :=
 ⟨by have := h.len; simp; omega, fun hn => by
  obtain ⟨ad, rfl, hb, hcell⟩ := h.tow (by omega)
  rw [if_neg (by omega)]
  refine ⟨ad.add (k * 12), rfl, by rw [block_of_add]; exact hb, fun i x hx => ?_⟩
  rw [add_of_add, <- Nat.add_mul]
  exact hcell _ x (by rw [<- hx, List.getElem?_drop])⟩
theorem NRow.take (h : NRow w A n l) {k : Nat} (hk : k <= n) : NRow w A k (l.take k) :=
 ⟨by have := h.len; simp; omega, fun h0 => by
  obtain ⟨ad, e, hl, hc⟩ := h.tow (by omega)
  refine ⟨ad, e, hl, fun i x hx => hc i x ?_⟩
  rw [List.getElem?_take] at hx
  split at hx
  ·exact hx
  ·cases hx⟩
end

structure NOwn (base e : Nat) (w : World) (A : Option Addr) (n c : Nat) (l : List D.Nm) : Prop where
 row : w.ownsRow base e 12 (.slice A n c) n (ncs l)
 base : base <= w.heap.size
section
variable {base e n c : Nat} {w w' : World} {A : Option Addr} {l : List D.Nm}
theorem NOwn.len (h : NOwn base e w A n c l) : l.length = n := by have := h.row.1; rw [ncs_len] at this; omega
theorem NOwn.cap (h : NOwn base e w A n c l) : n <= c ∧ c <= maxLen := by
 rcases h.row.2 with ⟨e, h0⟩ | ⟨g, cap, cur, e, _, _, h1, h2, _⟩
 ·injection e with _ _ e2
  exact ⟨by omega, by rw [e2]; exact Nat.zero_le _⟩
 ·injection e with _ _ e2
  subst e2
  exact ⟨h1, h2⟩
theorem NOwn.to_row (h : NOwn base e w A n c l) : NRow w A n l :=
 ⟨h.len, fun hn => by
  obtain ⟨g, cap, e, _, hlt⟩ := h.row.form hn
  have hA : A = some ⟨g, 0, none⟩ := by injection e
  subst hA
  exact ⟨_, rfl, hlt, fun i x hx j u hu => by
   rw [add_of_add]
   exact h.row.cells (g := g) rfl _ _ (ncs_at hx j u hu)⟩⟩
theorem NOwn.nil (h : base <= w.heap.size) : NOwn base e w none 0 0 [] := ⟨World.ownsRow_nil _ _ _ _, h⟩
theorem NOwn.kept (h : NOwn base e w A n c l) (hs : w.heap.size <= w'.heap.size) (hk : ∀ g, (Value.slice A n c).ownBlock = some g -> w'.heap[g]? = w.heap[g]?) : NOwn base e w' A n c l := by
 refine ⟨⟨h.row.1, ?_⟩, Nat.le_trans h.base hs⟩
 rcases h.row.2 with hn | ⟨g, cap, cur, e, hg, hh, r⟩
 ·exact .inl hn
 ·refine .inr ⟨g, cap, cur, e, hg, ?_, r⟩
  rw [hk g (by rw [e]; rfl)]
  exact hh
theorem NOwn.lt (h : NOwn base e w A n c l) : ∀ k, (Value.slice A n c).ownBlock = some k -> base <= k ∧ k < w.heap.size := h.row.lt
theorem NOwn.on (h : NOwn base e w A n c l) (hb : Below w.heap.size w w') : NOwn base e w' A n c l := h.kept hb.size fun g hg => hb.block g (h.lt g hg).2
theorem NOwn.drewN (h : NOwn base e w A n c l) (k : Nat) : NOwn base e (w.drewN k) A n c l := ⟨h.row, h.base⟩
theorem NOwn.alloc (h : NOwn base e w A n c l) (o : Obj) : NOwn base e (w.alloc o) A n c l := h.on ((Below.refl _ _).alloc (Nat.le_refl _) o)
theorem NOwn.low {b : Nat} (h : NOwn base e w A n c l) (hb : b <= base) : NOwn b e w A n c l := by
 refine ⟨⟨h.row.1, ?_⟩, Nat.le_trans hb h.base⟩
 rcases h.row.2 with hz | ⟨g, cap, cur, e, hg, r⟩
 ·exact .inl hz
 ·exact .inr ⟨g, cap, cur, e, Nat.le_trans hb hg, r⟩
end

section
variable (w : World)
end

theorem twelve (x : D.Nm) : ∃ a b c d e f g h i j k l : Value, nc x = #[a, b, c, d, e, f, g, h, i, j, k, l] := by
 have := x.len
 match hx : x.l, this with
 | [a, b, c, d, e, f, g, h, i, j, k, l], _ => exact ⟨_, _, _, _, _, _, _, _, _, _, _, _, by rw [nc, hx]; rfl⟩
abbrev z12 : Array Value := #[.int .u8 0, .int .u8 0, .int .u8 0, .int .u8 0, .int .u8 0, .int .u8 0, .int .u8 0, .int .u8 0, .int .u8 0, .int .u8 0, .int .u8 0, .int .u8 0]
theorem st_z (p : Value) : st 39 p (.agg #[.int .u8 0, .int .u8 0, .int .u8 0, .int .u8 0, .int .u8 0, .int .u8 0, .int .u8 0, .int .u8 0, .int .u8 0, .int .u8 0, .int .u8 0, .int .u8 0]) = st 39 p (.agg (nc D.zero)) := rfl
theorem ne_z (v : Value) : ne12 39 v (.agg #[.int .u8 0, .int .u8 0, .int .u8 0, .int .u8 0, .int .u8 0, .int .u8 0, .int .u8 0, .int .u8 0, .int .u8 0, .int .u8 0, .int .u8 0, .int .u8 0]) = ne12 39 v (.agg (nc D.zero)) := rfl
noncomputable def lv (t : TypeId) (a : Addr) : Sem Value := loadVar t a
theorem lv_a (a : Addr) : loadVar 38 a = lv 38 a := rfl
theorem lv_n (a : Addr) : loadVar 39 a = lv 39 a := rfl
theorem run_lv (w : World) (a : Addr) (t : TypeId) (ht : t = 38 ∨ t = 39) : (lv t a).run Tryz.prog w = (rd w a).elim (bad t a w) fun x => .ok (.agg (nc x)) w := by
 rw [<- run_ld w a t ht]
 simp only [lv, ld, Instr.loadAt, Instr.sureAddr, Sem.run_bind, Sem.run_pure, Result.andThen_ok]
theorem run_lv_a (w : World) (a : Addr) : (lv 38 a).run Tryz.prog w = (rd w a).elim (bad 38 a w) fun x => .ok (.agg (nc x)) w := run_lv w a _ (.inl rfl)
theorem run_lv_n (w : World) (a : Addr) : (lv 39 a).run Tryz.prog w = (rd w a).elim (bad 39 a w) fun x => .ok (.agg (nc x)) w := run_lv w a _ (.inr rfl)

theorem lv_of {w : World} {a : Addr} {x : D.Nm} (h : rd w a = some x) : (loadVar 39 a).run Tryz.prog w = .ok (.agg (nc x)) w := (run_lv_n w a).trans (by rw [h]; rfl)
theorem Blk.c {w : World} {g : Nat} {t : TypeId} {cs : Array Value} (h : Blk w g t cs) (i : Nat) : w.cell? ⟨g, i, none⟩ = cs[i]? := cell_of_row w g i cs t (0, 0) h.out
theorem Blk.f {w : World} {g : Nat} {t : TypeId} {cs : Array Value} (h : Blk w g t cs) (i : Nat) : w.frozen? ⟨g, i, none⟩ = false := by
 have := h.out
 simp [World.frozen?, this]
theorem Blk.put {w : World} {g : Nat} {t : TypeId} {cs : Array Value} (h : Blk w g t cs) (i : Nat) (u : Value) : Blk (w.setCell ⟨g, i, none⟩ u) g t (cs.setIfInBounds i u) := by
 have := h.out
 exact ⟨by simp [World.setCell, Array.getElem?_modify, this]⟩
theorem Blk.far {w : World} {g : Nat} {t : TypeId} {cs : Array Value} (h : Blk w g t cs) {p : Addr} (hp : g ≠ p.block) (u : Value) : Blk (w.setCell p u) g t cs := ⟨(Below.heap_setCell w p u g hp).trans h.out⟩
theorem Blk.ne_ {w : World} {g g' : Nat} {t t' : TypeId} {cs cs' : Array Value} (h : Blk w g t cs) (h' : Blk w g' t' cs') (hne : t ≠ t') : g ≠ g' := by
 rintro rfl
 have h1 := h.out
 rw [h'.out] at h1
 injection h1 with h1
 injection h1 with _ ht
 exact hne ht.symm
theorem below_drewN {B : Nat} {a w : World} (h : Below B a w) (n : Nat) : Below B a (w.drewN n) := ⟨h.os, h.tape, h.output, h.size, h.block⟩
theorem below_alloc_ (w : World) (o : Obj) : Below w.heap.size w (w.alloc o) := (Below.refl _ _).alloc (Nat.le_refl _) o
theorem st_blk {w : World} {g t : TypeId} {cs : Array Value} (ht : t = 38 ∨ t = 39) (h : Blk w g t cs) (hs : cs.size = 12) (x : D.Nm) :
  ∃ w', (st t (.pointer (some ⟨g, 0, none⟩)) (.agg (nc x))).run Tryz.prog w = .ok () w' ∧ Blk w' g t (nc x) ∧ w.grownBy w' (some g) := by
 have hr : (storeVar t ⟨g, 0, none⟩ (.agg (nc x))).run Tryz.prog w = .ok () (w.setRow g (nc x)) :=
  run_storeVar_row (P := Tryz.prog) w g t t cs (nc x) h.out (by rcases ht with rfl | rfl <;> (rw [nc_size]; kernel_rfl)) (by rw [nc_size, hs]) (nc_one x)
 refine ⟨w.setRow g (nc x), ?_, ⟨?_⟩, ⟨rfl, rfl, rfl, by simp [World.setRow], fun i _ hi => ?_⟩⟩
 ·simp only [st, Instr.storeAt, Instr.sureAddr, Sem.run_bind, Sem.run_pure, Result.andThen_ok]
  exact hr
 ·have := h.out
  simp [World.setRow, Array.getElem?_modify, this]
 ·have hne : ¬ g = i := fun e => hi (by rw [e])
  simp [World.setRow, Array.getElem?_modify, hne]
end Go.Proofs.YtgnjjlgmlokhmaaGreatDoor.Nm
