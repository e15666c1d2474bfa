/-
  
-/
import Derived.Test.YtgnjjlgmlokhmaaGreatDoorG16
import Derived.Test.YtgnjjlgmlokhmaaGreatDoorG17
import Derived.Test.YtgnjjlgmlokhmaaGreatDoorShp
set_option linter.unusedVariables false
set_option linter.unusedSimpArgs false
set_option maxRecDepth 100000
namespace Go.Proofs.YtgnjjlgmlokhmaaGreatDoor
open Go.RowKit

structure D.Nv where
 k : Nat
 t : ByteArray
 n : Nm.D.Nm
 A : Option Addr
 m : Nat
 c : Nat
def ncells (x : D.Nv) : List Value := .int .i64 (x.k : Nat) :: .string x.t :: (bys x.n.l ++ [.slice x.A x.m x.c])
theorem ncells_inj {x y : D.Nv} (h : ncells x = ncells y) : x = y := by
 obtain ⟨k, t, n, A, m, c⟩ := x
 obtain ⟨k', t', n', A', m', c'⟩ := y
 simp only [ncells, List.cons.injEq, Value.int.injEq, Value.string.injEq, true_and] at h
 obtain ⟨h1, rfl, h⟩ := h
 have := List.append_inj h (by simp [bys_len, Nm.D.Nm.len])
 obtain rfl := Nm.D.Nm.eq (bys_inj this.1)
 have h2 := this.2
 simp only [List.cons.injEq, Value.slice.injEq, and_true] at h2
 obtain ⟨rfl, rfl, rfl⟩ := h2
 obtain rfl : k = k' := by omega
 rfl
def nS : Shp D.Nv := ⟨ncells, 15, by decide, fun x => by simp [ncells, bys_len, x.n.len], ncells_inj, fun x u hu => by
 simp only [ncells, List.mem_cons, List.mem_append, List.not_mem_nil, or_false] at hu
 rcases hu with rfl | rfl | hu | rfl
 ·rfl
 ·rfl
 ·exact bys_one _ u hu
 ·rfl⟩
def zNv : D.Nv := ⟨0, ⟨#[]⟩, Nm.D.zero, none, 0, 0⟩
def D.pnm (x : D.Nd) : Nm.D.Nm := Nm.D.pad (D.sb x.n)
def nv (x : D.Nd) (A : Option Addr) (m c : Nat) : D.Nv := ⟨x.k, D.sb x.t, D.pnm x, A, m, c⟩
structure D.Sl where
 A : Option Addr
 m : Nat
 c : Nat
def nvs (vs : List (D.Nd × D.Sl)) : List D.Nv := vs.map fun p => nv p.1 p.2.A p.2.m p.2.c
theorem nvs_app (l k : List (D.Nd × D.Sl)) : nvs (l ++ k) = nvs l ++ nvs k := by simp [nvs]
theorem nvs_len (l : List (D.Nd × D.Sl)) : (nvs l).length = l.length := by simp [nvs]
def Pel (K : Value -> List D.Nd -> Prop) (F : Nat -> Prop) (w : World) (x : D.Nd) (p : D.Sl) : Prop :=
 D.Bt x ∧ p.m <= p.c ∧ ∃ cs : List (List Nat × Value), RF 2 F w p.A p.m (ccs cs) ∧ cs.map (·.1) = x.ws ∧ (∀ u ∈ cs, u.2.oneCell' = true) ∧ cs.length = x.ks.length ∧ ∀ (j : Nat) (t : List Nat) (u : Value) (q : List D.Nd), cs[j]? = some (t, u) -> x.ks[j]? = some q -> K u q
def Pm (F : Nat -> Prop) (w : World) : Nat -> Value -> List D.Nd -> Prop
 | 0, v, l => ∃ (A : Option Addr) (n c : Nat) (vs : List (D.Nd × D.Sl)), v = .slice A n c ∧ n <= c ∧ RF 15 F w A n (nS.rcs (nvs vs)) ∧ vs.map (·.1) = l ∧ ∀ (i : Nat) (x : D.Nd) (p : D.Sl), vs[i]? = some (x, p) -> Pel (fun _ _ => False) F w x p
 | r + 1, v, l => ∃ (A : Option Addr) (n c : Nat) (vs : List (D.Nd × D.Sl)), v = .slice A n c ∧ n <= c ∧ RF 15 F w A n (nS.rcs (nvs vs)) ∧ vs.map (·.1) = l ∧ ∀ (i : Nat) (x : D.Nd) (p : D.Sl), vs[i]? = some (x, p) -> Pel (Pm F w r) F w x p
def Pk (F : Nat -> Prop) (w : World) : Nat -> Value -> List D.Nd -> Prop
 | 0 => fun _ _ => False
 | r + 1 => Pm F w r
theorem Pm_eq (F : Nat -> Prop) (w : World) (r : Nat) (v : Value) (l : List D.Nd) : Pm F w r v l ↔ ∃ (A : Option Addr) (n c : Nat) (vs : List (D.Nd × D.Sl)), v = .slice A n c ∧ n <= c ∧ RF 15 F w A n (nS.rcs (nvs vs)) ∧ vs.map (·.1) = l ∧ ∀ (i : Nat) (x : D.Nd) (p : D.Sl), vs[i]? = some (x, p) -> Pel (Pk F w r) F w x p := by
 cases r <;> exact Iff.rfl
section
variable {F F' : Nat -> Prop} {w w' : World}
theorem Pel.tow {K K' : Value -> List D.Nd -> Prop} {x : D.Nd} {p : D.Sl} (h : Pel K F w x p) (h1 : ∀ sz A n xs, RF sz F w A n xs -> RF sz F' w' A n xs) (h2 : ∀ u q, K u q -> K' u q) : Pel K' F' w' x p := by
 obtain ⟨hb, hc, cs, hr, hw, h1c, hl, hk⟩ := h
 exact ⟨hb, hc, cs, h1 _ _ _ _ hr, hw, h1c, hl, fun j t u q hu hq => h2 u q (hk j t u q hu hq)⟩
theorem Pm.tow (h1 : ∀ sz A n xs, RF sz F w A n xs -> RF sz F' w' A n xs) : ∀ (r : Nat) {v : Value} {l : List D.Nd}, Pm F w r v l -> Pm F' w' r v l
 | 0, v, l, h => by
  obtain ⟨A, n, c, vs, e, hc, hr, hl, hb⟩ := h
  exact ⟨A, n, c, vs, e, hc, h1 _ _ _ _ hr, hl, fun i x p hx => (hb i x p hx).tow h1 (fun _ _ h => h)⟩
 | r + 1, v, l, h => by
  obtain ⟨A, n, c, vs, e, hc, hr, hl, hb⟩ := h
  exact ⟨A, n, c, vs, e, hc, h1 _ _ _ _ hr, hl, fun i x p hx => (hb i x p hx).tow h1 (fun _ _ h => Pm.tow h1 r h)⟩
theorem Pm.keep {r : Nat} {v : Value} {l : List D.Nd} (h : Pm F w r v l) (k : Keeps F w w') : Pm F w' r v l := Pm.tow (fun _ _ _ _ h => h.keep k) r h
theorem Pm.weaken {r : Nat} {v : Value} {l : List D.Nd} (h : Pm F w r v l) (k : ∀ b, b < w.heap.size -> F b -> F' b) : Pm F' w r v l := Pm.tow (fun _ _ _ _ h => h.weaken k) r h
theorem Pk.tow (h1 : ∀ sz A n xs, RF sz F w A n xs -> RF sz F' w' A n xs) (r : Nat) {v : Value} {l : List D.Nd} (h : Pk F w r v l) : Pk F' w' r v l := by
 cases r with
 | zero => exact h
 | succ r => exact Pm.tow h1 r h
theorem Pel.keep {r : Nat} {x : D.Nd} {p : D.Sl} (h : Pel (Pk F w r) F w x p) (k : Keeps F w w') : Pel (Pk F w' r) F w' x p := h.tow (fun _ _ _ _ h => h.keep k) (fun _ _ h => Pk.tow (fun _ _ _ _ h => h.keep k) r h)
theorem Pel.weaken {r : Nat} {x : D.Nd} {p : D.Sl} (h : Pel (Pk F w r) F w x p) (k : ∀ b, b < w.heap.size -> F b -> F' b) : Pel (Pk F' w r) F' w x p := h.tow (fun _ _ _ _ h => h.weaken k) (fun _ _ h => Pk.tow (fun _ _ _ _ h => h.weaken k) r h)
theorem Pm.up : ∀ (r : Nat) {v : Value} {l : List D.Nd}, Pm F w r v l -> Pm F w (r + 1) v l
 | 0, v, l, h => by
  obtain ⟨A, n, c, vs, e, hc, hr, hl, hb⟩ := h
  exact ⟨A, n, c, vs, e, hc, hr, hl, fun i x p hx => (hb i x p hx).tow (fun _ _ _ _ h => h) (fun _ _ h => h.elim)⟩
 | r + 1, v, l, h => by
  obtain ⟨A, n, c, vs, e, hc, hr, hl, hb⟩ := h
  exact ⟨A, n, c, vs, e, hc, hr, hl, fun i x p hx => (hb i x p hx).tow (fun _ _ _ _ h => h) (fun _ _ h => Pm.up r h)⟩
end
theorem Pm.nil (F : Nat -> Prop) (w : World) (r : Nat) (A : Option Addr) (c : Nat) : Pm F w r (.slice A 0 c) [] := (Pm_eq F w r _ _).2 ⟨A, 0, c, [], rfl, Nat.zero_le _, RF.nil _ _ _ _, rfl, fun i x p h => by simp at h⟩
theorem pel_leaf {r : Nat} {F : Nat -> Prop} {w : World} {k : Nat} {t n : List Nat} (ht : ∀ c ∈ t, c < 256) (hn : ∀ c ∈ n, c < 256) : Pel (Pk F w r) F w (.mk k t n [] []) ⟨none, 0, 0⟩ :=
 ⟨⟨ht, hn, fun w h => by cases h⟩, Nat.le_refl _, [], RF.nil _ _ _ _, rfl, (fun u h => by cases h), rfl, fun j t u q h => by simp at h⟩
structure Pcr (r base : Nat) (w : World) (A : Option Addr) (n c : Nat) (l : List D.Nd) : Prop where
 out : ∃ vs : List (D.Nd × D.Sl), Ow 80 15 base w A n c (nS.rcs (nvs vs)) ∧ vs.map (·.1) = l ∧ ∀ (i : Nat) (x : D.Nd) (p : D.Sl), vs[i]? = some (x, p) -> Pel (Pk (Fo base (Value.slice A n c).ownBlock) w r) (Fo base (Value.slice A n c).ownBlock) w x p
section
variable {r base n c : Nat} {w w' : World} {A : Option Addr} {l : List D.Nd}
theorem Pcr.nil (r : Nat) (h : base <= w.heap.size) : Pcr r base w none 0 0 [] := ⟨[], Ow.nil _ 15 h, rfl, fun i x p h => by simp at h⟩
theorem Pcr.len (h : Pcr r base w A n c l) : l.length = n := by
 obtain ⟨vs, ho, hl, _⟩ := h.out
 have := ho.len
 rw [Shp.rcs_len, nvs_len, show nS.n = 15 from rfl] at this
 rw [<- hl, List.length_map]; omega
theorem Pcr.on (h : Pcr r base w A n c l) (hb : Below w.heap.size w w') : Pcr r base w' A n c l := by
 obtain ⟨vs, ho, hl, hx⟩ := h.out
 exact ⟨vs, ho.on hb, hl, fun i x p hi => (hx i x p hi).keep (keeps_below hb)⟩
theorem Pcr.fr {S : Nat -> Prop} (h : Pcr r base w A n c l) (k : Fr S w w') (hS : ∀ i, S i -> i < base) : Pcr r base w' A n c l := by
 obtain ⟨vs, ho, hl, hx⟩ := h.out
 exact ⟨vs, ho.kept k.size fun g hg => k.same g (ho.lt g hg).2 fun hs => by have := hS g hs; have := (ho.lt g hg).1; omega, hl, fun i x p hi => (hx i x p hi).keep ⟨k.size, fun b hb hlt => k.same b hlt fun hs => by have := hS b hs; have := hb.1; omega⟩⟩
theorem Pcr.done (h : Pcr r base w A n c l) : Pm (fun b => base <= b) w r (.slice A n c) l := by
 obtain ⟨vs, ho, hl, hx⟩ := h.out
 refine (Pm_eq _ w r _ _).2 ⟨A, n, c, vs, rfl, ho.cap.1, ho.rf fun g hg => ?_, hl, fun i x p hi => (hx i x p hi).weaken fun b _ hb => hb.1⟩
 exact ho.block_le _ hg
theorem Pcr.own_lt (h : Pcr r base w A n c l) : ∀ k, (Value.slice A n c).ownBlock = some k -> base <= k ∧ k < w.heap.size := by
 obtain ⟨vs, ho, _⟩ := h.out
 exact ho.lt
theorem Pcr.snoc {A' : Option Addr} {c' : Nat} {x : D.Nd} {p : D.Sl} {vs : List (D.Nd × D.Sl)} (hl : vs.map (·.1) = l)
  (hv : ∀ (i : Nat) (x : D.Nd) (p : D.Sl), vs[i]? = some (x, p) -> Pel (Pk (Fo base (Value.slice A n c).ownBlock) w r) (Fo base (Value.slice A n c).ownBlock) w x p)
  (hx : Pel (Pk (Fo base (Value.slice A n c).ownBlock) w r) (Fo base (Value.slice A n c).ownBlock) w x p)
  (hg : w.grownBy w' (Value.slice A n c).ownBlock) (hor : (Value.slice A' (n + 1) c').ownBlock = (Value.slice A n c).ownBlock ∨ (Value.slice A' (n + 1) c').ownBlock = some w.heap.size)
  (hon : Ow 80 15 base w' A' (n + 1) c' (nS.rcs (nvs vs) ++ nS.rcs (nvs [(x, p)]))) : Pcr r base w' A' (n + 1) c' (l ++ [x]) := by
 rw [<- Shp.rcs_app, <- nvs_app] at hon
 have move : ∀ {x p}, Pel (Pk (Fo base (Value.slice A n c).ownBlock) w r) (Fo base (Value.slice A n c).ownBlock) w x p -> Pel (Pk (Fo base (Value.slice A' (n + 1) c').ownBlock) w' r) (Fo base (Value.slice A' (n + 1) c').ownBlock) w' x p := by
  intro x p hB
  have h1 := hB.weaken (F' := fun q => base <= q ∧ (Value.slice A n c).ownBlock ≠ some q ∧ (Value.slice A' (n + 1) c').ownBlock ≠ some q) fun q hq hF => ⟨hF.1, hF.2, by
   rcases hor with e | e
   ·rw [e]; exact hF.2
   ·rw [e]; intro h; injection h with h; omega⟩
  have h2 := h1.keep (keeps_grown hg fun q hq => hq.2.1)
  exact h2.weaken fun q _ hF => ⟨hF.1, hF.2.2⟩
 refine ⟨vs ++ [(x, p)], hon, by simp [hl], fun i y q hi => ?_⟩
 rw [List.getElem?_append] at hi
 split at hi
 ·exact move (hv i y q hi)
 ·have hi0 : i - vs.length = 0 := by
   have := (List.getElem?_eq_some_iff.1 hi).1
   simp at this; omega
  rw [hi0] at hi
  simp at hi
  obtain ⟨rfl, rfl⟩ := hi
  exact move hx
end
theorem nod_under : Tryz.prog.underlying 22 = some (.slice 80) := by kernel_rfl
theorem nod_info : (Tryz.prog.info? 80).map (fun i => (i.zero, i.size, i.bytes)) = some (some (.agg (nS.v zNv)), 15, 64) := by kernel_rfl
theorem rw_node (w : World) (g : Nat) (hg : g = w.heap.size) (x : D.Nv) (T : TypeId) : Rw 15 (w.alloc (.cells (nS.v x) T)) (some ⟨g, 0, none⟩) 1 (nS.cs x) := by
 subst hg
 have := rw_new w 15 T 1 (nS.v x) (by rw [Shp.v_size]; rfl)
 simpa [Shp.v] using this
theorem rcs_one_ (x : D.Nd) (p : D.Sl) : nS.rcs (nvs [(x, p)]) = nS.cs (nv x p.A p.m p.c) := by simp [nvs, Shp.rcs]
theorem napp8 {ops : Array Oper} {rest : List Oper} {o : Oper} {act : Act} {Q : Exit -> Act -> World -> Prop} (hgd : o.guard = none) (s x : Operand)
  (hop : o.op = .call { callee := .builtin .append, args := #[s, x], argTypes := #[22, 22] })
  {r base : Nat} {A B : Option Addr} {n c d : Nat} {l : List D.Nd} {y : D.Nd} {p : D.Sl} {w : World} (hes : act.eval s = .slice A n c) (h : Pcr r base w A n c l) (hx : act.eval x = .slice B 1 d) (hr : Rw 15 w B 1 (nS.cs (nv y p.A p.m p.c)))
  (hB : Pel (Pk (Fo base (Value.slice A n c).ownBlock) w r) (Fo base (Value.slice A n c).ownBlock) w y p) (hn : n + 1 <= 1000000)
  (k : ∀ A' c' w', Pcr r base w' A' (n + 1) c' (l ++ [y]) -> Below base w w' -> w.grownBy w' (Value.slice A n c).ownBlock -> wpList Tryz.prog ops Q rest (act.put o.dst (.slice A' (n + 1) c')) w') : wpList Tryz.prog ops Q (o :: rest) act w := by
 obtain ⟨vs, hov, hl, hv⟩ := h.out
 refine gapp w nod_under nod_info rfl (by decide) (by decide) hgd s x hop hes hov hx hr (nS.one _) hn fun A' c' w' h1 h2 h3 => k A' c' w' (Pcr.snoc hl hv hB h2 h3 (by rw [rcs_one_]; exact h1)) (ow_below hov h2) h2
theorem napp9 {ops : Array Oper} {rest : List Oper} {o : Oper} {act : Act} {Q : Exit -> Act -> World -> Prop} (hgd : o.guard = none) (s x : Operand)
  (hop : o.op = .call { callee := .builtin .append, args := #[s, x], argTypes := #[22, 22] })
  {base : Nat} {A B : Option Addr} {n c d : Nat} {xs : List Value} {y : D.Nv} {w : World} (hes : act.eval s = .slice A n c) (h : Ow 80 15 base w A n c xs) (hx : act.eval x = .slice B 1 d) (hr : Rw 15 w B 1 (nS.cs y)) (hn : n + 1 <= 1000000)
  (k : ∀ A' c' w', Ow 80 15 base w' A' (n + 1) c' (xs ++ nS.cs y) -> Below base w w' -> w.grownBy w' (Value.slice A n c).ownBlock -> wpList Tryz.prog ops Q rest (act.put o.dst (.slice A' (n + 1) c')) w') : wpList Tryz.prog ops Q (o :: rest) act w :=
 gapp w nod_under nod_info rfl (by decide) (by decide) hgd s x hop hes h hx hr (nS.one _) hn fun A' c' w' h1 h2 h3 => k A' c' w' h1 (ow_below h h2) h2
end Go.Proofs.YtgnjjlgmlokhmaaGreatDoor
namespace Go.Proofs.YtgnjjlgmlokhmaaGreatDoor
open Go.RowKit
attribute [local go_sem ↓] Go.wp_at_zero Go.wp_at_succ

def Mq (s : ByteArray) (g r : Nat) (o : D.Ot) (w : World) (x : Ending) (w' : World) : Prop :=
 ∃ (A : Option Addr) (n c : Nat), x = .returned (.slice A n c) ∧ Rdr w' g s o.a o.e ∧ Fr (· = g) w w' ∧ (o.e = 0 -> Pm (fun b => w.heap.size <= b) w' r (.slice A n c) o.l)
structure Glb (w : World) (g : Nat) : Prop where
 e : Env w
 k : Knd w
 ne : g ≠ 2
 nk : g ≠ 0
theorem Glb.fr {w w' : World} {g : Nat} (h : Glb w g) (f : Fr (· = g) w w') : Glb w' g :=
 ⟨⟨f.cell h.e.c0 (Ne.symm h.ne), f.cell h.e.c1 (Ne.symm h.ne), f.cell h.e.c2 (Ne.symm h.ne), f.cell h.e.c3 (Ne.symm h.ne), f.cell h.e.c4 (Ne.symm h.ne), f.cell h.e.c5 (Ne.symm h.ne)⟩,
   ⟨f.cell h.k.c0 (Ne.symm h.nk), f.cell h.k.c1 (Ne.symm h.nk), f.cell h.k.c2 (Ne.symm h.nk), f.cell h.k.c3 (Ne.symm h.nk), f.cell h.k.c4 (Ne.symm h.nk)⟩, h.ne, h.nk⟩
theorem inside_any (d k : Nat) (v : Bool) (w : World) (hd : d <= 1000) : Calls Tryz.prog 80 #[.agg #[.int .i64 (d : Nat), .bool v], .int .i64 (k : Nat)] w fun x w' => x = .returned (.agg #[.int .i64 ((d : Int) + 1), .bool (v || k == 3)]) ∧ Below w.heap.size w w' := by
 by_cases h3 : k = 3
 ·subst h3
  cases v
  ·go_enter Tryz.func80, Tryz.ntmps80
   go_wp2
   exact bodyPost_ret (v := .agg #[.int .i64 ((d : Int) + 1), .bool true]) (by simp [results, Tryz.results80, go_sem]) rfl ⟨rfl, ((Below.refl _ _).alloc (Nat.le_refl _) _).alloc (by simp) _⟩
  ·go_enter Tryz.func80, Tryz.ntmps80
   go_wp2
   exact bodyPost_ret (v := .agg #[.int .i64 ((d : Int) + 1), .bool true]) (by simp [results, Tryz.results80, go_sem]) rfl ⟨rfl, ((Below.refl _ _).alloc (Nat.le_refl _) _).alloc (by simp) _⟩
 ·have i3 : ((k : Int) == 3) = false := by simp; omega
  have n3 : (k == 3) = false := by simpa using h3
  rw [n3]
  clear n3 h3
  cases v
  ·go_enter Tryz.func80, Tryz.ntmps80
   go_wp2
   exact bodyPost_ret (v := .agg #[.int .i64 ((d : Int) + 1), .bool false]) (by simp [results, Tryz.results80, go_sem]) rfl ⟨rfl, ((Below.refl _ _).alloc (Nat.le_refl _) _).alloc (by simp) _⟩
  ·go_enter Tryz.func80, Tryz.ntmps80
   go_wp2
   exact bodyPost_ret (v := .agg #[.int .i64 ((d : Int) + 1), .bool true]) (by simp [results, Tryz.results80, go_sem]) rfl ⟨rfl, ((Below.refl _ _).alloc (Nat.le_refl _) _).alloc (by simp) _⟩
theorem Pm.fr_base {F : Nat -> Prop} {w w' : World} {r : Nat} {v : Value} {l : List D.Nd} {S : Nat -> Prop} (h : Pm F w r v l) (k : Fr S w w') (hS : ∀ i, F i -> i < w.heap.size -> ¬ S i) : Pm F w' r v l :=
 (h.weaken (F' := fun i => F i ∧ i < w.heap.size) (fun b hb hF => ⟨hF, hb⟩)).keep (F := fun i => F i ∧ i < w.heap.size) ⟨k.size, fun b hb hl => k.same b hl (hS b hb.1 hb.2)⟩ |>.weaken fun b _ hF => hF.1
set_option maxHeartbeats 4000000 in
theorem casesC (s : ByteArray) (g tr ti tk tc d k r : Nat) (v : Bool) (o : D.Ot) (u : ByteArray) (W : World) (hd : d <= 3)
  (b0 : W.cell? ⟨tr, 0, none⟩ = some (vr g)) (b1 : Blk W ti 48 #[.int .i64 (d : Nat), .bool v]) (b2 : W.cell? ⟨tk, 0, none⟩ = some (.int .i64 (k : Nat))) (bc : Blk W tc 101 #[.string u, .slice none 0 0])
  (hr : tr ≠ g) (hi : ti ≠ g) (hk : tk ≠ g) (hc : tc ≠ g) (hrc : tr ≠ tc) (hic : ti ≠ tc) (hkc : tk ≠ tc)
  (hm : ∀ W', Below W.heap.size W W' -> Calls Tryz.prog 11 #[vr g, .agg #[.int .i64 ((d : Int) + 1), .bool (v || k == 3)]] W' (Mq s g r o W')) :
  Calls Tryz.prog 79 #[vr tr, vr ti, vr tk, vr tc] W fun x w' => ∃ (A : Option Addr) (n c : Nat), x = .returned (.tuple #[]) ∧ Rdr w' g s o.a o.e ∧ Blk w' tc 101 #[.string u, .slice A n c] ∧ Fr (fun i => i = g ∨ i = tc) W w' ∧ (o.e = 0 -> Pm (fun b => W.heap.size <= b) w' r (.slice A n c) o.l) := by
 have cM := Lib.hid hm
 have cI := Lib.hid (fun W' => inside_any d k v W' (by omega))
 obtain ⟨v', hv'⟩ : ∃ v', (v || k == 3) = v' := ⟨_, rfl⟩
 rw [hv'] at cM cI
 have B0 := Lib.hid (fun W' (f : Fr (fun i => i = g ∨ i = tc) W W') => f.cell b0 (fun e => by rcases e with e | e; exact hr e; exact hrc e))
 have B1 := Lib.hid (fun W' (f : Fr (fun i => i = g ∨ i = tc) W W') => f.blk b1 (fun e => by rcases e with e | e; exact hi e; exact hic e))
 have B2 := Lib.hid (fun W' (f : Fr (fun i => i = g ∨ i = tc) W W') => f.cell b2 (fun e => by rcases e with e | e; exact hk e; exact hkc e))
 have BC := Lib.hid bc
 have hcl := bc.lt
 clear hm b0 b1 b2 bc hv'
 go_enter Tryz.func79, Tryz.ntmps79
 refine wp_region_noPanic ?_
 refine wp_region_held_drew (S := fun W' => Fr (fun i => i = g ∨ i = tc) W W') (by kernel_rfl) (Fr.of_below ((Below.refl _ _).drew) (Nat.le_refl _)) (fun _ => ?_)
 obtain ⟨wd, hwd⟩ : ∃ wd, W.drew = wd := ⟨_, rfl⟩
 have sb : Below W.heap.size W wd := by rw [<- hwd]; exact (Below.refl _ _).drew
 have sd : Fr (fun i => i = g ∨ i = tc) W wd := Fr.of_below sb (Nat.le_refl _)
 rw [hwd]
 clear hwd
 refine takeT 0 (some 4) ?vc0 ?hyc0 sd ?restc0
 case hyc0 => (intro o ho W hW; simp only [gT, gS, gZ, sI] at ho; subst ho; (try dsimp only at hW); have q0 := B0.out _ hW; go_simp; try rfl)
 try simp only [Act.put, iT, iZ, iS]
 refine takeT 1 (some 5) ?vc1 ?hyc1 sd ?restc1
 case hyc1 => (intro o ho W hW; simp only [gT, gS, gZ, sI] at ho; subst ho; (try dsimp only at hW); have q1 := (B1.out _ hW).c_ 0; have q2 := (B1.out _ hW).c_ 1; have q3 := (B1.out _ hW).lt; go_simp; try rfl)
 try simp only [Act.put, iT, iZ, iS]
 refine takeT 2 (some 6) ?vc2 ?hyc2 sd ?restc2
 case hyc2 => (intro o ho W hW; simp only [gT, gS, gZ, sI] at ho; subst ho; (try dsimp only at hW); have q0 := B2.out _ hW; go_simp; try rfl)
 try simp only [Act.put, iT, iZ, iS]
 refine nextS 3 (by kernel_rfl) (by rfl) (fun o ho K hK => ?_)
 simp only [gT, gS, gZ, sI] at ho; subst ho
 go_simp
 (go_at_call 80; (with_reducible refine (cI.out _).mono ?_); rintro e wi ⟨rfl, bi⟩)
 have bw : Below W.heap.size W wi := sb.trans (bi.mono sb.size)
 have fi : Fr (· = g) W wi := Fr.of_below bw (Nat.le_refl _)
 have si : Fr (fun i => i = g ∨ i = tc) W wi := fi.mono fun i _ e => Or.inl e
 refine hK.out _ _ si (fun _ => ?_)
 clear hK K
 try simp only [Act.put, iT, iZ, iS]
 refine nextS 4 (by kernel_rfl) (by rfl) (fun o ho K hK => ?_)
 simp only [gT, gS, gZ, sI] at ho; subst ho
 go_simp
 (go_at_call 11; (with_reducible refine (cM.out _ bw).mono ?_); rintro e wm ⟨A, n, c, rfl, rm, fm, pm⟩)
 have sm : Fr (fun i => i = g ∨ i = tc) W wm := si.step (fm.mono fun i _ e => Or.inl e)
 have BM : Blk wm tc 101 #[.string u, .slice none 0 0] := (fi.step fm).blk BC.out hc
 have m1 := BM.c_ 1
 have m2 := BM.f_
 have m3 := BM.lt
 refine hK.out _ _ sm (fun _ => ?_)
 clear hK K
 try simp only [Act.put, iT, iZ, iS]
 refine takeT 5 (some 9) ?vc5 ?hyc5 sm ?restc5
 case hyc5 => (intro o ho W hW; simp only [gT, gS, gZ, sI] at ho; subst ho; (try dsimp only at hW); go_simp; try rfl)
 try simp only [Act.put, iT, iZ, iS]
 refine nextS 6 (by kernel_rfl) (by rfl) (fun o ho K hK => ?_)
 simp only [gT, gS, gZ, sI] at ho; subst ho
 go_simp
 have s6 : Fr (fun i => i = g ∨ i = tc) W (wm.setCell ⟨tc, 1, none⟩ (.slice A n c)) := sm.setCell _ _ fun _ => Or.inr rfl
 refine hK.out _ _ s6 (fun _ => ?_)
 clear hK K
 try simp only [Act.put, iT, iZ, iS]
 refine wpAnyH_done (by kernel_rfl) ?_ _
 refine NoPanic.normal ?_
 go_wp2_with fail
 go_end0
 have hf9 : Fr (· = tc) wm (wm.setCell ⟨tc, 1, none⟩ (.slice A n c)) := (Fr.refl _ _).setCell _ _ fun _ => rfl
 refine ⟨A, n, c, rfl, rm.fr hf9 (Ne.symm hc), BM.put_ 1 (.slice A n c), s6, fun he => ?_⟩
 have h1 := (pm he).fr_base hf9 (fun i hF _ e => by have e1 : i = tc := e; have e2 : wi.heap.size <= i := hF; have := fi.size; omega)
 exact h1.weaken fun b _ hb => Nat.le_trans fi.size hb
theorem braced_case (s : ByteArray) (g a e oa oe : Nat) (tr ti tk tc : Nat) (Φ : World -> Prop) (w : World) (h : Rdr w g s a e) (ha : a <= s.size) (hs : s.size <= 1000)
  (hC : ∀ W, Rdr W g s (D.tk (D.ns s) 123 a e).1 (D.tk (D.ns s) 123 a e).2 -> Fr (· = g) w W -> Calls Tryz.prog 79 #[vr tr, vr ti, vr tk, vr tc] W fun x w' => x = .returned (.tuple #[]) ∧ ∃ a2 e2, Rdr w' g s a2 e2 ∧ a2 <= s.size ∧ D.tk (D.ns s) 125 a2 e2 = (oa, oe) ∧ Φ w') :
  Calls Tryz.prog 44 #[vr g, .func (.func 79) #[] #[vr tr, vr ti, vr tk, vr tc]] w fun x w' => x = .returned (.tuple #[]) ∧ Rdr w' g s oa oe ∧ ∃ w2, Φ w2 ∧ Fr (· = g) w2 w' := by
 have cT := Lib.hid (take_any s g a e 123 w h ha hs (by decide) 123 rfl)
 have cT2 := Lib.hid (fun a2 e2 W (hW : Rdr W g s a2 e2) (h2 : a2 <= s.size) => take_any s g a2 e2 125 W hW h2 hs (by decide) 125 rfl)
 obtain ⟨l, hl⟩ : ∃ l, D.ns s = l := ⟨_, rfl⟩
 rw [hl] at cT cT2 hC
 obtain ⟨p, hp⟩ : ∃ p, D.tk l 123 a e = p := ⟨_, rfl⟩
 rw [hp] at cT hC
 obtain ⟨b, f⟩ := p
 simp only at cT hC
 have CC := Lib.hid hC
 clear hC hl hp h
 go_enter Tryz.func44, Tryz.ntmps44
 go_wp2_with (first
  | (go_at_call 24; (with_reducible refine cT.out.mono ?_); rintro y w1 ⟨rfl, h1_, f1_⟩; have HR1 := Lib.hid h1_; have HF1 := Lib.hid f1_; clear h1_ f1_)
  | (go_at_call 79; (with_reducible refine (CC.out _ HR1.out HF1.out).mono ?_); rintro y w2 ⟨rfl, a2, e2, h2_, i2_, t2_, p2_⟩; have HR2 := Lib.hid h2_; have HI2 := Lib.hid i2_; have HT2 := Lib.hid t2_; have HP2 := Lib.hid p2_; clear h2_ i2_ t2_ p2_ HR1)
  | (go_at_call 24; (with_reducible refine (cT2.out a2 e2 _ HR2.out HI2.out).mono ?_); rintro y w3 ⟨rfl, h3_, f3_⟩; have HR3 := Lib.hid h3_; have HF3 := Lib.hid f3_; clear h3_ f3_))
 go_end0
 have h3 := HR3.out
 rw [HT2.out] at h3
 exact ⟨rfl, h3, _, HP2.out, HF3.out⟩
theorem braced_place (s : ByteArray) (g a e oa oe : Nat) (tr tn ti : Nat) (Φ : World -> Prop) (w : World) (h : Rdr w g s a e) (ha : a <= s.size) (hs : s.size <= 1000)
  (hC : ∀ W, Rdr W g s (D.tk (D.ns s) 123 a e).1 (D.tk (D.ns s) 123 a e).2 -> Fr (· = g) w W -> Calls Tryz.prog 45 #[vr tr, vr tn, vr ti] W fun x w' => x = .returned (.tuple #[]) ∧ ∃ a2 e2, Rdr w' g s a2 e2 ∧ a2 <= s.size ∧ D.tk (D.ns s) 125 a2 e2 = (oa, oe) ∧ Φ w') :
  Calls Tryz.prog 44 #[vr g, .func (.func 45) #[] #[vr tr, vr tn, vr ti]] w fun x w' => x = .returned (.tuple #[]) ∧ Rdr w' g s oa oe ∧ ∃ w2, Φ w2 ∧ Fr (· = g) w2 w' := by
 have cT := Lib.hid (take_any s g a e 123 w h ha hs (by decide) 123 rfl)
 have cT2 := Lib.hid (fun a2 e2 W (hW : Rdr W g s a2 e2) (h2 : a2 <= s.size) => take_any s g a2 e2 125 W hW h2 hs (by decide) 125 rfl)
 obtain ⟨l, hl⟩ : ∃ l, D.ns s = l := ⟨_, rfl⟩
 rw [hl] at cT cT2 hC
 obtain ⟨p, hp⟩ : ∃ p, D.tk l 123 a e = p := ⟨_, rfl⟩
 rw [hp] at cT hC
 obtain ⟨b, f⟩ := p
 simp only at cT hC
 have CC := Lib.hid hC
 clear hC hl hp h
 go_enter Tryz.func44, Tryz.ntmps44
 go_wp2_with (first
  | (go_at_call 24; (with_reducible refine cT.out.mono ?_); rintro y w1 ⟨rfl, h1_, f1_⟩; have HR1 := Lib.hid h1_; have HF1 := Lib.hid f1_; clear h1_ f1_)
  | (go_at_call 45; (with_reducible refine (CC.out _ HR1.out HF1.out).mono ?_); rintro y w2 ⟨rfl, a2, e2, h2_, i2_, t2_, p2_⟩; have HR2 := Lib.hid h2_; have HI2 := Lib.hid i2_; have HT2 := Lib.hid t2_; have HP2 := Lib.hid p2_; clear h2_ i2_ t2_ p2_ HR1)
  | (go_at_call 24; (with_reducible refine (cT2.out a2 e2 _ HR2.out HI2.out).mono ?_); rintro y w3 ⟨rfl, h3_, f3_⟩; have HR3 := Lib.hid h3_; have HF3 := Lib.hid f3_; clear h3_ f3_))
 go_end0
 have h3 := HR3.out
 rw [HT2.out] at h3
 exact ⟨rfl, h3, _, HP2.out, HF3.out⟩

theorem blk_new_ {w : World} {g : Nat} {cs : Array Value} {t : TypeId} (h : g = w.heap.size) : Blk (w.alloc (.cells cs t)) g t cs := by subst h; exact Blk.new w t cs
theorem next_dead (s : ByteArray) (g a e : Nat) (w : World) (h : Rdr w g s a e) (he : e ≠ 0) (ha : a <= s.size) : Calls Tryz.prog 22 #[vr g] w fun x w' => x = .returned (.int .u8 0) ∧ Below w.heap.size w w' := by
 have := next_any s g a e w h ha
 rw [D.nb_dead he] at this
 exact this
theorem word_zero (w : World) : Calls Tryz.prog 78 #[.int .u8 0] w fun x w' => x = .returned (.bool false) ∧ Below w.heap.size w w' := wordByte_any 0 (by decide) w
theorem text_zero (d : Nat) (v : Bool) (w : World) : Calls Tryz.prog 25 #[.agg #[.int .i64 (d : Nat), .bool v], .int .u8 0] w fun x w' => x = .returned (.bool false) ∧ Below w.heap.size w w' := by
 have := textByte_any d v 0 (by decide) w
 have e : D.plB v 0 = false := by cases v <;> rfl
 rw [e] at this
 exact this
theorem message_dead (s : ByteArray) (g a e d r : Nat) (v : Bool) (w : World) (h : Rdr w g s a e) (he : e ≠ 0) (ha : a <= s.size) (z : Int) (hz : z = (d : Nat)) : Calls Tryz.prog 11 #[vr g, .agg #[.int .i64 z, .bool v]] w (Mq s g r ⟨[], a, e⟩ w) := by
 subst hz
 have cN := Lib.hid (fun W (hb : Below w.heap.size w W) => next_dead s g a e W (h.on hb) he ha)
 have cT := Lib.hid (text_zero d v)
 have HH := Lib.hid h
 have HE := Lib.hid he
 clear h he
 go_enter Tryz.func11, Tryz.ntmps11
 go_wp2_with fail
 go_loopw [5] (fun a wr => a = .slice none 0 0 ∧ Hid (Below w.heap.size w wr) ∧ Hid (Blk wr w.heap.size 48 #[.int .i64 (d : Nat), .bool v])) (fun _ _ => 0)
 case atStart => exact ⟨rfl, Lib.hid ((Below.refl _ _).alloc (Nat.le_refl _) _), Lib.hid (Blk.new _ _ _)⟩
 case round =>
  obtain ⟨rfl, HB, HK⟩ := hrel
  obtain ⟨wo, rfl⟩ : ∃ wo : World, wo = wr := ⟨_, rfl⟩
  have CN := Lib.hid (cN.out wo HB.out)
  go_wp2_with (first
   | (go_at_call 22; (with_reducible refine CN.out.mono ?_); rintro y w1 ⟨rfl, b1⟩; have B1 := Lib.hid b1; have k1 := HK.out.on b1; have c0 := k1.c_ 0; have c1 := k1.c_ 1; have c3 := k1.lt; clear k1 b1)
   | (go_at_call 25; (with_reducible refine (cT.out _).mono ?_); rintro y w2 ⟨rfl, b2⟩))
  go_ret
  have hb := HB.out.trans ((B1.out.trans (b2.mono B1.out.size)).mono HB.out.size)
  exact ⟨none, 0, 0, rfl, HH.out.on hb, Fr.of_below hb (Nat.le_refl _), fun h0 => absurd h0 HE.out⟩
theorem cases_dead (s : ByteArray) (g a e d k : Nat) (v : Bool) (w : World) (h : Rdr w g s a e) (he : e ≠ 0) (ha : a <= s.size) : Calls Tryz.prog 50 #[vr g, .int .i64 (k : Nat), .agg #[.int .i64 (d : Nat), .bool v]] w fun x w' => x = .returned (.slice none 0 0) ∧ Rdr w' g s a e ∧ Fr (· = g) w w' := by
 have cN := Lib.hid (fun W (hb : Below w.heap.size w W) => next_dead s g a e W (h.on hb) he ha)
 have cT := Lib.hid word_zero
 have HH := Lib.hid h
 clear h he
 go_enter Tryz.func50, Tryz.ntmps50
 go_wp2_with fail
 go_loopw [] (fun wr => Hid (Below w.heap.size w wr) ∧ Hid (Blk wr w.heap.size 76 #[vr g]) ∧ Hid (Blk wr (w.heap.size + 3) 78 #[.slice none 0 0])) (fun _ => 0)
 case atStart => exact ⟨Lib.hid ((((Below.refl _ _).alloc (Nat.le_refl _) _).alloc (by simp) _).alloc (by simp; omega) _ |>.alloc (by simp; omega) _), Lib.hid (((Blk.new w _ _).alloc _).alloc _ |>.alloc _), Lib.hid (blk_new_ (by simp))⟩
 case round =>
  obtain ⟨HB, HK, HT⟩ := hrel
  obtain ⟨wo, rfl⟩ : ∃ wo : World, wo = wr := ⟨_, rfl⟩
  have k0 := HK.out.c_ 0
  have k1 := HK.out.lt
  go_wp2_with (first
   | (go_at_call 22; (with_reducible refine (cN.out wo HB.out).mono ?_); rintro y w1 ⟨rfl, b1⟩; have B1 := Lib.hid b1; clear b1)
   | (go_at_call 78; (with_reducible refine (cT.out _).mono ?_); rintro y w2 ⟨rfl, b2⟩; have B2 := Lib.hid (B1.out.trans (b2.mono B1.out.size)); have q0 := (HK.out.on B2.out).c_ 0; have q1 := (HK.out.on B2.out).lt; clear b2)
   | (go_at_call 22; (with_reducible refine (cN.out _ (HB.out.trans (B2.out.mono HB.out.size))).mono ?_); rintro y w3 ⟨rfl, b3⟩; have B3 := Lib.hid (B2.out.trans (b3.mono B2.out.size)); have r0 := (HT.out.on B3.out).c_ 0; have r1 := (HT.out.on B3.out).lt; clear b3))
  go_ret
  have hb := HB.out.trans (B3.out.mono HB.out.size)
  exact ⟨rfl, HH.out.on hb, Fr.of_below hb (Nat.le_refl _)⟩
theorem D.lgE_lgl {k : Nat} {t : List Nat} {ws : List (List Nat)} (hk : k = 3 ∨ k = 4) : D.lgl k t ws = D.lgE k t ws := by
 unfold D.lgE D.lgl D.cwd
 rcases hk with rfl | rfl
 ·by_cases h : t ∈ D.catW <;> simp [h]
 ·cases hb : Nm.D.isB t <;> simp
def D.p1 (k : Nat) (t : List Nat) (ws : List (List Nat)) (I L : Nat) : Nat × Nat := (if D.lgE k t ws = 0 then L else I, D.lgE k t ws)
def D.o2 (mm : Nat -> D.Ot) (p : Nat × Nat) : D.Ot := if p.2 = 0 then mm p.1 else ⟨[], p.1, p.2⟩
theorem D.cas_go {l : List Nat} {k : Nat} {nm : List Nat} {mm : Nat -> D.Ot} {f I L : Nat} {ws : List (List Nat)} {ks : List (List D.Nd)} {o : D.Ot} (hL : D.far D.wdB l I = L) (hne : L ≠ I) (hk : k = 3 ∨ k = 4) (ho : D.cas l k nm mm (f + 1) I ws ks = o)
  {p2 : Nat × Nat} {o2 : D.Ot} {p3 : Nat × Nat} (h2 : D.tk l 123 (D.p1 k (D.sub l I L) ws I L).1 (D.p1 k (D.sub l I L) ws I L).2 = p2) (ho2 : D.o2 mm p2 = o2) (h3 : D.tk l 125 o2.a o2.e = p3) :
  (p3.2 = 0 -> D.p1 k (D.sub l I L) ws I L = (L, 0) ∧ p2 = (L + 1, 0) ∧ L < l.length ∧ o2 = mm (L + 1) ∧ o2.e = 0 ∧ o2.a < l.length ∧ p3.1 = o2.a + 1 ∧ D.cas l k nm mm f (D.far (· == 32) l p3.1) (ws ++ [D.sub l I L]) (ks ++ [o2.l]) = o) ∧
  (p3.2 ≠ 0 -> o.a = p3.1 ∧ o.e = p3.2) := by
 rw [D.cas_eq hL, if_neg hne, D.lgE_lgl hk] at ho
 unfold D.p1 at h2 ⊢
 by_cases hE : D.lgE k (D.sub l I L) ws = 0
 ·rw [hE] at h2 ⊢
  rw [if_neg (by simp [hE])] at ho
  rw [if_pos rfl] at h2 ⊢
  by_cases h5 : l[L]? = some 123
  ·rw [if_neg (by simp [h5])] at ho
   rw [D.tk_live h5] at h2
   subst h2
   have e2 : o2 = mm (L + 1) := by rw [<- ho2]; rfl
   rw [<- e2] at ho
   have hl := (List.getElem?_eq_some_iff.1 h5).1
   by_cases he : o2.e = 0
   ·rw [if_neg (by simpa using he)] at ho
    rw [he] at h3
    by_cases h6 : l[o2.a]? = some 125
    ·rw [if_neg (by simp [h6])] at ho
     rw [D.tk_live h6] at h3
     subst h3
     exact ⟨fun _ => ⟨rfl, rfl, hl, e2, he, (List.getElem?_eq_some_iff.1 h6).1, rfl, ho⟩, fun h => absurd rfl h⟩
    ·rw [if_pos h6] at ho
     rw [D.tk_not (by decide) h6] at h3
     subst h3
     exact ⟨fun h => absurd h (Nat.succ_ne_zero 2), fun _ => by rw [<- ho]; exact ⟨rfl, rfl⟩⟩
   ·rw [if_pos he] at ho
    rw [D.tk_dead (by decide) he] at h3
    subst h3
    exact ⟨fun h => absurd h he, fun _ => by rw [<- ho]; exact ⟨rfl, rfl⟩⟩
  ·rw [if_pos h5] at ho
   rw [D.tk_not (by decide) h5] at h2
   subst h2
   have e2 : o2 = ⟨[], L, 3⟩ := by rw [<- ho2]; rfl
   subst e2
   rw [D.tk_dead (by decide) (Nat.succ_ne_zero 2)] at h3
   subst h3
   exact ⟨fun h => absurd h (Nat.succ_ne_zero 2), fun _ => by rw [<- ho]; exact ⟨rfl, rfl⟩⟩
 ·rw [if_pos hE] at ho
  rw [if_neg hE] at h2
  rw [D.tk_dead (by decide) hE] at h2
  subst h2
  have e2 : o2 = ⟨[], I, D.lgE k (D.sub l I L) ws⟩ := by rw [<- ho2, D.o2, if_neg hE]
  subst e2
  rw [D.tk_dead (by decide) hE] at h3
  subst h3
  exact ⟨fun h => absurd h hE, fun _ => by rw [<- ho]; exact ⟨rfl, rfl⟩⟩
def rz (s : ByteArray) (w : World) (g : Nat) : Nat := match w.cell? ⟨g, 2, none⟩ with
 | some (.int _ z) => if z = 0 then s.size - posOf w g + 1 else 0
 | _ => 0
theorem Rdr.rz {w : World} {g a e : Nat} {s : ByteArray} (h : Rdr w g s a e) : rz s w g = if e = 0 then s.size - a + 1 else 0 := by
 unfold Go.Proofs.YtgnjjlgmlokhmaaGreatDoor.rz
 rw [h.c2, h.pos]
 by_cases he : e = 0
 ·subst he; rfl
 ·simp [he]
theorem D.far_ends {p : Nat -> Bool} {l : List Nat} {I : Nat} (h0 : p 0 = false) (h : D.far p l I = I) : p (D.nb l I 0) = false := by
 cases hx : p (D.nb l I 0) with
 | false => rfl
 | true =>
  obtain ⟨_, _, e⟩ := D.wf_go h0 hx
  rw [D.wf_live, D.wf_live, h] at e
  have := D.far_ge p l (I + 1)
  omega
theorem D.far_goes {p : Nat -> Bool} {l : List Nat} {I : Nat} (h : D.far p l I ≠ I) : p (D.nb l I 0) = true := by
 cases hx : p (D.nb l I 0) with
 | true => rfl
 | false =>
  have := D.wf_end hx
  rw [D.wf_live] at this
  exact absurd this h
theorem fr_own {w w' : World} {row : Option Nat} (h : w.grownBy w' row) : Fr (fun i => row = some i) w w' := ⟨h.os, h.tape, h.output, h.size, fun i hi hn => h.block i hi fun e => hn e.symm⟩
theorem Ow.fr {T : TypeId} {sz base n c : Nat} {w w' : World} {A : Option Addr} {xs : List Value} {S : Nat -> Prop} (h : Ow T sz base w A n c xs) (k : Fr S w w') (hS : ∀ i, base <= i -> i < w.heap.size -> ¬ S i) : Ow T sz base w' A n c xs :=
 h.kept k.size fun g hg => k.same g (h.lt g hg).2 (hS g (h.lt g hg).1 (h.lt g hg).2)
structure Bx (W0 g k d : Nat) (v : Bool) (w : World) : Prop where
 a0 : Blk w W0 76 #[vr g]
 a1 : Blk w (W0 + 1) 3 #[.int .i64 (k : Nat)]
 a2 : Blk w (W0 + 2) 48 #[.int .i64 (d : Nat), .bool v]
theorem Bx.fr {W0 g k d : Nat} {v : Bool} {w w' : World} {S : Nat -> Prop} (h : Bx W0 g k d v w) (f : Fr S w w') (hS : ∀ i, W0 <= i -> i <= W0 + 2 -> ¬ S i) : Bx W0 g k d v w' := ⟨f.blk h.a0 (hS _ (by omega) (by omega)), f.blk h.a1 (hS _ (by omega) (by omega)), f.blk h.a2 (hS _ (by omega) (by omega))⟩
theorem Bx.on {W0 g k d : Nat} {v : Bool} {w w' : World} (h : Bx W0 g k d v w) (b : Below w.heap.size w w') : Bx W0 g k d v w' := ⟨h.a0.on b, h.a1.on b, h.a2.on b⟩
def Kc (r : Nat) (F : Nat -> Prop) (w : World) (cs : List (List Nat × Value)) (ks : List (List D.Nd)) : Prop :=
 cs.length = ks.length ∧ (∀ u ∈ cs, u.2.oneCell' = true) ∧ ∀ (j : Nat) (t : List Nat) (u : Value) (q : List D.Nd), cs[j]? = some (t, u) -> ks[j]? = some q -> Pm F w r u q
theorem Kc.move {r : Nat} {F F' : Nat -> Prop} {w w' : World} {cs : List (List Nat × Value)} {ks : List (List D.Nd)} (h : Kc r F w cs ks) (h1 : ∀ q, q < w.heap.size -> F q -> F' q) (k : Keeps (fun q => F q ∧ F' q) w w') : Kc r F' w' cs ks :=
 ⟨h.1, h.2.1, fun j t u q hu hq => (((h.2.2 j t u q hu hq).weaken (F' := fun q => F q ∧ F' q) fun b hb hF => ⟨hF, h1 b hb hF⟩).keep k).weaken fun _ _ hF => hF.2⟩
theorem Kc.fr {r : Nat} {F F' S : Nat -> Prop} {w w' : World} {cs : List (List Nat × Value)} {ks : List (List D.Nd)} (h : Kc r F w cs ks) (k : Fr S w w') (h1 : ∀ q, q < w.heap.size -> F q -> F' q ∧ ¬ S q) : Kc r F' w' cs ks :=
 ⟨h.1, h.2.1, fun j t u q hu hq => ((h.2.2 j t u q hu hq).weaken (F' := fun q => F' q ∧ ¬ S q) fun b hb hF => h1 b hb hF).keep (⟨k.size, fun b hb hl => k.same b hl hb.2⟩ : Keeps (fun q => F' q ∧ ¬ S q) w w') |>.weaken fun _ _ hF => hF.1⟩
theorem Kc.snoc {r : Nat} {F : Nat -> Prop} {w : World} {cs : List (List Nat × Value)} {ks : List (List D.Nd)} {t : List Nat} {v : Value} {x : List D.Nd} (h : Kc r F w cs ks) (h1 : v.oneCell' = true) (hv : Pm F w r v x) : Kc r F w (cs ++ [(t, v)]) (ks ++ [x]) := by
 refine ⟨by simp [h.1], ?_, ?_⟩
 ·intro u hu
  rcases List.mem_append.1 hu with hu | hu
  ·exact h.2.1 u hu
  ·simp at hu; rw [hu]; exact h1
 ·intro j t' u q hu hq
  by_cases hj : j < cs.length
  ·rw [List.getElem?_append_left hj] at hu
   rw [List.getElem?_append_left (by rw [<- h.1]; exact hj)] at hq
   exact h.2.2 j t' u q hu hq
  ·have hj' := (List.getElem?_eq_some_iff.1 hu).1
   simp at hj'
   obtain rfl : j = cs.length := by omega
   rw [List.getElem?_append_right (Nat.le_refl _)] at hu
   rw [List.getElem?_append_right (by rw [h.1]; exact Nat.le_refl _), h.1] at hq
   simp at hu hq
   obtain ⟨rfl, rfl⟩ := hu
   subst hq
   exact hv
theorem bracedC (s : ByteArray) (g W0 tc d k r : Nat) (v : Bool) (mm : Nat -> D.Ot) (u : ByteArray) (I1 e1 : Nat) (W : World) (hs : s.size <= 60) (hd : d < 3) (hI : I1 <= s.size) (h : Rdr W g s I1 e1) (hB : Bx W0 g k d v W) (hc : Blk W tc 101 #[.string u, .slice none 0 0])
  (hg0 : g < W0) (ht : W0 + 2 < tc) (hG : Glb W g)
  (hm : ∀ q W', q <= s.size -> Rdr W' g s q 0 -> Glb W' g -> Calls Tryz.prog 11 #[vr g, .agg #[.int .i64 ((d : Int) + 1), .bool (v || k == 3)]] W' (Mq s g r (mm q) W'))
  (hg : ∀ q, q <= s.size -> (mm q).a <= s.size) {p2 : Nat × Nat} {o2 : D.Ot} {p3 : Nat × Nat} (h2 : D.tk (D.ns s) 123 I1 e1 = p2) (ho2 : D.o2 mm p2 = o2) (h3 : D.tk (D.ns s) 125 o2.a o2.e = p3) :
  Calls Tryz.prog 44 #[vr g, .func (.func 79) #[] #[vr W0, vr (W0 + 2), vr (W0 + 1), vr tc]] W fun x w' => ∃ (A : Option Addr) (n c : Nat), x = .returned (.tuple #[]) ∧ Rdr w' g s p3.1 p3.2 ∧ Blk w' tc 101 #[.string u, .slice A n c] ∧ Fr (fun i => i = g ∨ i = tc) W w' ∧ (o2.e = 0 -> Pm (fun b => W.heap.size <= b) w' r (.slice A n c) o2.l) := by
 have hlen := D.ns_len s
 have hp2 : p2.1 <= s.size := by rw [<- h2, <- hlen]; exact D.tk_le (by decide) (by rw [hlen]; exact hI)
 have hoa : o2.a <= s.size := by
  rw [<- ho2]; unfold D.o2
  split
  ·exact hg _ hp2
  ·exact hp2
 refine (braced_case s g I1 e1 p3.1 p3.2 W0 (W0 + 2) (W0 + 1) tc (fun W2 => ∃ (A : Option Addr) (n c : Nat), Blk W2 tc 101 #[.string u, .slice A n c] ∧ Fr (fun i => i = g ∨ i = tc) W W2 ∧ (o2.e = 0 -> Pm (fun b => W.heap.size <= b) W2 r (.slice A n c) o2.l)) W h hI (by omega) (fun W' hR hF => ?_)).mono ?_
 ·rw [h2] at hR
  have hB' := hB.fr hF (fun i h1 h2 => by omega)
  have hG' := hG.fr hF
  have hc' := hF.blk hc (show ¬ tc = g by omega)
  refine (casesC s g W0 (W0 + 2) (W0 + 1) tc d k r v o2 u W' (by omega) (hB'.a0.c_ 0) hB'.a2 (hB'.a1.c_ 0) hc' (by omega) (by omega) (by omega) (by omega) (by omega) (by omega) (by omega) (fun W'' hb => ?_)).mono ?_
  ·by_cases h0 : p2.2 = 0
   ·have e : o2 = mm p2.1 := by rw [<- ho2, D.o2, if_pos h0]
    rw [e]
    rw [h0] at hR
    exact hm _ W'' hp2 (hR.on hb) (hG'.fr (Fr.of_below hb (Nat.le_refl _)))
   ·have e : o2 = ⟨[], p2.1, p2.2⟩ := by rw [<- ho2, D.o2, if_neg h0]
    rw [e]
    exact message_dead s g p2.1 p2.2 (d + 1) r _ W'' (hR.on hb) h0 hp2 _ (by omega)
  ·rintro x w' ⟨A, n, c, rfl, rm, bm, fm, pm⟩
   refine ⟨rfl, o2.a, o2.e, rm, hoa, by rw [h3], A, n, c, bm, (hF.mono (S' := fun i => i = g ∨ i = tc) fun i _ e => Or.inl e).step fm, fun he => (pm he).weaken fun b _ hb => Nat.le_trans hF.size hb⟩
 ·rintro x w' ⟨rfl, hR, w2, ⟨A, n, c, bm, fm, pm⟩, f2⟩
  have hgW := h.lt
  refine ⟨A, n, c, rfl, hR, f2.blk bm (show ¬ tc = g by omega), fm.step (f2.mono fun i _ e => Or.inl e), fun he => (pm he).fr_base f2 fun i hi _ e => ?_⟩
  have e1 : i = g := e
  have e2 : W.heap.size <= i := hi
  omega

theorem case_under : Tryz.prog.underlying 78 = some (.slice 101) := by kernel_rfl
theorem case_info : (Tryz.prog.info? 101).map (fun i => (i.zero, i.size, i.bytes)) = some (some (.agg #[.string ⟨#[]⟩, .slice none 0 0]), 2, 40) := by kernel_rfl
structure Lv (s : ByteArray) (k : Nat) (nm : List Nat) (mm : Nat -> D.Ot) (o : D.Ot) (r base : Nat) (w : World) (I : Nat) (A : Option Addr) (n c : Nat) (cs : List (List Nat × Value)) : Prop where
 out : ∃ (f : Nat) (ks : List (List D.Nd)), s.size < I + f ∧ n <= I ∧ D.cas (D.ns s) k nm mm f I (cs.map (·.1)) ks = o ∧ D.B8 (cs.map (·.1)) ∧ Kc r (Fo base (Value.slice A n c).ownBlock) w cs ks
def Cq (s : ByteArray) (g k r : Nat) (nm : List Nat) (o : D.Ot) (w : World) (x : Ending) (w' : World) : Prop :=
 ∃ (A : Option Addr) (n c a e : Nat), x = .returned (.slice A n c) ∧ Rdr w' g s a e ∧ a <= s.size ∧ Fr (· = g) w w' ∧ D.tk (D.ns s) 125 a e = (o.a, o.e) ∧
  (o.e = 0 -> ∃ (ws : List (List Nat)) (ks : List (List D.Nd)), o.l = [.mk k [] nm ws ks] ∧ Pel (Pk (fun b => w.heap.size <= b) w' (r + 1)) (fun b => w.heap.size <= b) w' (.mk k [] nm ws ks) ⟨A, n, c⟩)
theorem lv_end {l : List Nat} {k f : Nat} {nm : List Nat} {mm : Nat -> D.Ot} {o : D.Ot} {I : Nat} {ws : List (List Nat)} {ks : List (List D.Nd)} (h : D.cas l k nm mm (f + 1) I ws ks = o) (hL : D.far D.wdB l I = I) :
  o = (if l[I]? ≠ some 125 then D.er_ I 3 else if D.othT ∉ ws then D.er_ I 13 else (⟨[.mk k [] nm ws ks], I + 1, 0⟩ : D.Ot)) := by
 rw [D.cas_eq hL, if_pos rfl] at h
 exact h.symm
theorem lv_pel {k : Nat} {nm : List Nat} {r base : Nat} {w : World} {A : Option Addr} {n c : Nat} {cs : List (List Nat × Value)} {ks : List (List D.Nd)} (hb8 : D.B8 (cs.map (·.1))) (hkc : Kc r (Fo base (Value.slice A n c).ownBlock) w cs ks) (hO : Ow 101 2 base w A n c (ccs cs)) (hnm : ∀ x ∈ nm, x < 256) {F : Nat -> Prop} (hF : ∀ b, base <= b -> F b) :
  Pel (Pk F w (r + 1)) F w (.mk k [] nm (cs.map (·.1)) ks) ⟨A, n, c⟩ := by
 obtain ⟨h1, h2, h3⟩ := hkc
 refine ⟨⟨(fun x hx => by cases hx), hnm, hb8⟩, hO.cap.1, cs, (hO.rf fun g hg => hF _ (hO.block_le _ hg)), rfl, h2, h1, fun j t u q hu hq => (h3 j t u q hu hq).weaken fun b _ hb => hF b hb.1⟩
theorem Lv.fr {s : ByteArray} {k : Nat} {nm : List Nat} {mm : Nat -> D.Ot} {o : D.Ot} {r base : Nat} {w w' : World} {I : Nat} {A : Option Addr} {n c : Nat} {cs : List (List Nat × Value)} {S : Nat -> Prop} (h : Lv s k nm mm o r base w I A n c cs) (f : Fr S w w') (hS : ∀ i, base <= i -> i < w.heap.size -> ¬ S i) : Lv s k nm mm o r base w' I A n c cs := by
 obtain ⟨f', ks, h1, h2, h3, h4, h5⟩ := h.out
 exact ⟨f', ks, h1, h2, h3, h4, h5.fr f fun q hq hF => ⟨hF, hS q hF.1 hq⟩⟩
theorem Fr.keeps_ {S : Nat -> Prop} {w w' : World} (h : Fr S w w') {F : Nat -> Prop} (hF : ∀ i, F i -> i < w.heap.size -> ¬ S i) : Keeps F w w' := ⟨h.size, fun b hb hl => h.same b hl (hF b hb hl)⟩
theorem Pel.fr {S : Nat -> Prop} {F : Nat -> Prop} {r : Nat} {w w' : World} {x : D.Nd} {p : D.Sl} (h : Pel (Pk F w r) F w x p) (k : Fr S w w') (hS : ∀ i, F i -> i < w.heap.size -> ¬ S i) : Pel (Pk F w' r) F w' x p :=
 ((h.weaken (F' := fun i => F i ∧ i < w.heap.size) (fun b hb hF => ⟨hF, hb⟩)).keep (F := fun i => F i ∧ i < w.heap.size) (k.keeps_ fun i hF _ => hS i hF.1 hF.2)).weaken fun b _ hF => hF.1
theorem rw_case (w : World) (g : Nat) (hg : g = w.heap.size) (t : List Nat) (v : Value) : Rw 2 (w.alloc (.cells #[.string (D.sb t), v] 101)) (some ⟨g, 0, none⟩) 1 (ccs [(t, v)]) := by
 subst hg
 exact rw_new w 2 101 1 #[.string (D.sb t), v] rfl
set_option maxHeartbeats 8000000 in
theorem cases_any (s : ByteArray) (g i k d r : Nat) (v : Bool) (nm : List Nat) (mm : Nat -> D.Ot) (o : D.Ot) (w : World) (hs : s.size <= 60) (hd : d < 3) (hk : k = 3 ∨ k = 4) (hi : i <= s.size) (h : Rdr w g s i 0) (hG : Glb w g) (hnm : ∀ x ∈ nm, x < 256)
  (hm : ∀ q W', q <= s.size -> Rdr W' g s q 0 -> Glb W' g -> Calls Tryz.prog 11 #[vr g, .agg #[.int .i64 ((d : Int) + 1), .bool (v || k == 3)]] W' (Mq s g r (mm q) W'))
  (hg : ∀ q, q <= s.size -> (mm q).a <= s.size ∧ ((mm q).e = 0 -> q <= (mm q).a)) (ho : D.cas (D.ns s) k nm mm (s.size + 1) i [] [] = o) :
  Calls Tryz.prog 50 #[vr g, .int .i64 (k : Nat), .agg #[.int .i64 (d : Nat), .bool v]] w (Cq s g k r nm o w) := by
 have hlen := D.ns_len s
 have hgl := h.lt
 have h256 := ns_lt s
 have hW : ∀ (I : Nat) (A : Option Addr) (n c : Nat) (cs : List (List Nat × Value)) (W : World), Rdr W g s I 0 -> I <= s.size -> D.far D.wdB (D.ns s) I ≠ I -> W.cell? ⟨w.heap.size + 1, 0, none⟩ = some (.int .i64 (k : Nat)) -> W.cell? ⟨w.heap.size + 3, 0, none⟩ = some (.slice A n c) -> Rw 2 W A n (ccs cs) -> D.B8 (cs.map (·.1)) -> (∀ x ∈ cs, x.2.oneCell' = true) -> n <= 1000000 -> Glb W g -> (∀ ad, A = some ad -> ad.block ≠ g) ->
   Calls Tryz.prog 69 #[vr g, .func (.func 75) #[] #[vr (w.heap.size + 1), vr (w.heap.size + 3)]] W fun x w' => x = .returned (.string (D.sb (D.sub (D.ns s) I (D.far D.wdB (D.ns s) I)))) ∧ Rdr w' g s (D.p1 k (D.sub (D.ns s) I (D.far D.wdB (D.ns s) I)) (cs.map (·.1)) I (D.far D.wdB (D.ns s) I)).1 (D.p1 k (D.sub (D.ns s) I (D.far D.wdB (D.ns s) I)) (cs.map (·.1)) I (D.far D.wdB (D.ns s) I)).2 ∧ Fr (· = g) W w' := by
  intro I A n c cs W hW hI hne hq hr hR hb h1 hn hGW hA
  exact (word_case s g I (w.heap.size + 1) (w.heap.size + 3) k A n c cs W hW hI (by omega) hq hr hR hb h1 hn hGW.e (by omega) (by omega) hA hGW.ne).mono fun x w' ⟨f, _, q⟩ => ⟨(q hne).1, (q hne).2.1, f⟩
 have HW := Lib.hid hW
 clear hW
 have HB := Lib.hid (fun tc (u : ByteArray) I1 e1 W (hI : I1 <= s.size) (hR : Rdr W g s I1 e1) (hB : Bx w.heap.size g k d v W) (hc : Blk W tc 101 #[.string u, .slice none 0 0]) (ht : w.heap.size + 2 < tc) (hGW : Glb W g) => bracedC s g w.heap.size tc d k r v mm u I1 e1 W hs hd hI hR hB hc hgl ht hGW hm (fun q hq => (hg q hq).1) rfl rfl rfl)
 have HG0 := Lib.hid (fun q hq => (hg q hq))
 have HN := Lib.hid (fun a e W (hW : Rdr W g s a e) (ha : a <= s.size) => next_any s g a e W hW ha)
 have HD := Lib.hid (fun x W (hx : x < 256) => wordByte_any x hx W)
 have HBL := Lib.hid (fun a e W (hW : Rdr W g s a e) (ha : a <= s.size) => blanks_any s g a e W hW ha (by omega))
 have HF13 := Lib.hid (fun a W (hW : Rdr W g s a 0) => fail_any s g a 0 a 13 W hW 13 rfl)
 have HFI := Lib.hid (fun A n c (cs : List (List Nat × Value)) W (hr : Rw 2 W A n (ccs cs)) (hb : D.B8 (cs.map (·.1))) (h1 : ∀ x ∈ cs, x.2.oneCell' = true) (hn : n <= 1000000) => cfind_any A n c cs ⟨#[111, 116, 104, 101, 114]⟩ W hr hb h1 hn)
 rw [show D.ns ⟨#[111, 116, 104, 101, 114]⟩ = D.othT from rfl] at HFI
 have H2 := Lib.hid h256
 have HNM := Lib.hid hnm
 have HH := Lib.hid h
 have HG := Lib.hid hG
 have HO := Kept.mk ho
 have HKK := Lib.hid hk
 clear h hG hnm hm hg ho hk h256
 go_enter Tryz.func50, Tryz.ntmps50
 go_wp2_with fail
 go_loopw [] (fun wr => ∃ (I e n c : Nat) (A : Option Addr) (cs : List (List Nat × Value)), I <= s.size ∧ Hid (Rdr wr g s I e) ∧ Hid (Bx w.heap.size g k d v wr) ∧ Hid (Blk wr (w.heap.size + 3) 78 #[.slice A n c]) ∧ Hid (Ow 101 2 (w.heap.size + 4) wr A n c (ccs cs)) ∧ Hid (Fr (· = g) w wr) ∧ Kept (e = 0 -> Lv s k nm mm o r (w.heap.size + 4) wr I A n c cs) ∧ Kept (e ≠ 0 -> o.a = I ∧ o.e = e) ∧ n <= 1000) (fun wr => rz s wr g)
 case atStart =>
  refine ⟨i, 0, 0, 0, none, [], hi, Lib.hid (HH.out.on ((((Below.refl _ _).alloc (Nat.le_refl _) _).alloc (by simp) _).alloc (by simp; omega) _ |>.alloc (by simp; omega) _)), Lib.hid ⟨?_, ?_, ?_⟩, Lib.hid (blk_new_ (by simp)), Lib.hid (Ow.nil _ _ (by simp)), Lib.hid (((((Fr.refl _ _).alloc _).alloc _).alloc _).alloc _), ⟨fun _ => ⟨s.size + 1, [], by omega, Nat.zero_le _, HO.out, (fun x hx => by cases hx), rfl, (fun u hu => by cases hu), fun j t u q hu hq => by simp at hu⟩⟩, ⟨fun h => absurd rfl h⟩, by omega⟩
  ·exact ((Blk.new w _ _).alloc _).alloc _ |>.alloc _
  ·exact ((blk_new_ (by simp)).alloc _).alloc _
  ·exact (blk_new_ (by simp)).alloc _
 case round =>
  obtain ⟨I, e, n, c, A, cs, hI, HR, HX, HT, HO1, HF, HL, HE, hn⟩ := hrel
  obtain ⟨wo, rfl⟩ : ∃ wo : World, wo = wr := ⟨_, rfl⟩
  have hsz := HF.out.size
  have hTl := HT.out.lt
  have k0 := HX.out.a0.c_ 0
  have k1 := HX.out.a0.lt
  have hmz := HR.out.rz
  by_cases he : e = 0
  ·subst he
   have hlv := HL.out rfl
   have HLV := Kept.mk hlv
   clear HL HE
   have CN := Lib.hid (HN.out I 0 wo HR.out hI)
   have hx256 := D.nb_lt H2.out I 0
   have hends := D.far_ends (p := D.wdB) (l := D.ns s) (I := I) (by rfl)
   have hgoes := D.far_goes (p := D.wdB) (l := D.ns s) (I := I)
   have hnb : D.nb (D.ns s) I 0 = (D.ns s).getD I 0 := D.nb_live
   obtain ⟨x, hx⟩ : ∃ x, D.nb (D.ns s) I 0 = x := ⟨_, rfl⟩
   rw [hx] at CN hx256 hends hgoes hnb
   have CN2 := Lib.hid (fun W (hb : Below wo.heap.size wo W) => (by have := HN.out I 0 W (HR.out.on hb) hI; rwa [hx] at this : Calls Tryz.prog 22 #[vr g] W fun y w' => y = .returned (.int .u8 (x : Nat)) ∧ Below W.heap.size W w'))
   have CD := Lib.hid (fun W => HD.out x W hx256)
   clear hx
   obtain ⟨f0, ks, hf0, hnI, hcas, hb8, hkc⟩ := hlv.out
   obtain ⟨f, rfl⟩ : ∃ f, f0 = f + 1 := ⟨f0 - 1, by omega⟩
   by_cases hLI : D.far D.wdB (D.ns s) I = I
   ·have hend := lv_end hcas hLI
    have hpel := lv_pel (k := k) hb8 hkc HO1.out HNM.out (F := fun b => w.heap.size <= b) (fun b hb => by omega)
    rw [hends hLI] at CD
    have h1c := hkc.2.1
    have HPEL := Kept.mk hpel
    have CFI := Lib.hid (fun W (hb : Below wo.heap.size wo W) => HFI.out A n c cs W (HO1.out.on hb).to_row hb8 h1c (by omega))
    clear hpel hcas hkc HLV hlv hgoes hends
    by_cases h125 : x = 125
    ·have i125 : ((x : Int) == 125) = true := by simp; omega
     have h5 : (D.ns s)[I]? = some 125 := by
      cases hq : (D.ns s)[I]? with
      | none => rw [List.getD, hq] at hnb; have hnb' : x = 0 := hnb; omega
      | some y => rw [List.getD, hq] at hnb; have hnb' : x = y := hnb; rw [<- hnb', h125]
     rw [if_neg (by simp [h5])] at hend
     by_cases h3 : D.othT ∈ cs.map (·.1)
     ·rw [if_neg (by simp [h3])] at hend
      have i3 : ¬ D.fnd (cs.map (·.1)) D.othT < 0 := by unfold D.fnd; rw [if_pos h3]; omega
      have i4 : (0 : Int) <= D.fnd (cs.map (·.1)) D.othT := by omega
      obtain ⟨z, hz⟩ : ∃ z, D.fnd (cs.map (·.1)) D.othT = z := ⟨_, rfl⟩
      rw [hz] at i3 i4 CFI
      have HEND := Kept.mk hend
      have H5 := Lib.hid h5
      clear hend h3 hz hb8 h1c hnb h5 h125
      go_wp2_with (first
       | (go_at_call 22; (with_reducible refine CN.out.mono ?_); rintro y w1 ⟨rfl, b1⟩; have B1 := Lib.hid b1; clear b1)
       | (go_at_call 78; (with_reducible refine (CD.out _).mono ?_); rintro y w2 ⟨rfl, b2⟩; have B2 := Lib.hid (B1.out.trans (b2.mono B1.out.size)); have q0 := (HX.out.on B2.out).a0.c_ 0; have q1 := (HX.out.on B2.out).a0.lt; clear b2)
       | (go_at_call 22; (with_reducible refine (CN2.out _ B2.out).mono ?_); rintro y w3 ⟨rfl, b3⟩; have B3 := Lib.hid (B2.out.trans (b3.mono B2.out.size)); have r0 := (HT.out.on B3.out).c_ 0; have r1 := (HT.out.on B3.out).lt; clear b3)
       | (go_at_call 77; (with_reducible refine (CFI.out _ B3.out).mono ?_); rintro y w4 ⟨rfl, b4⟩; have B4 := Lib.hid (B3.out.trans (b4.mono B3.out.size)); have r0 := (HT.out.on B4.out).c_ 0; have r1 := (HT.out.on B4.out).lt; clear b4))
      go_ret
      have hf := HF.out.step (Fr.of_below B4.out (Nat.le_refl _))
      exact ⟨A, n, c, I, 0, rfl, HR.out.on B4.out, hI, hf, by rw [HEND.out]; exact D.tk_live H5.out, fun _ => ⟨_, ks, by rw [HEND.out], HPEL.out.keep (keeps_below B4.out)⟩⟩
     ·rw [if_pos h3] at hend
      have i3 : D.fnd (cs.map (·.1)) D.othT < 0 := by unfold D.fnd; rw [if_neg h3]; omega
      obtain ⟨z, hz⟩ : ∃ z, D.fnd (cs.map (·.1)) D.othT = z := ⟨_, rfl⟩
      rw [hz] at i3 CFI
      have HEND := Kept.mk hend
      clear hend h3 hz hb8 h1c hnb h5 HPEL h125
      go_upto_region 9 with (first
       | (go_at_call 22; (with_reducible refine CN.out.mono ?_); rintro y w1 ⟨rfl, b1⟩; have B1 := Lib.hid b1; clear b1)
       | (go_at_call 78; (with_reducible refine (CD.out _).mono ?_); rintro y w2 ⟨rfl, b2⟩; have B2 := Lib.hid (B1.out.trans (b2.mono B1.out.size)); have q0 := (HX.out.on B2.out).a0.c_ 0; have q1 := (HX.out.on B2.out).a0.lt; clear b2)
       | (go_at_call 22; (with_reducible refine (CN2.out _ B2.out).mono ?_); rintro y w3 ⟨rfl, b3⟩; have B3 := Lib.hid (B2.out.trans (b3.mono B2.out.size)); have r0 := (HT.out.on B3.out).c_ 0; have r1 := (HT.out.on B3.out).lt; clear b3)
       | (go_at_call 77; (with_reducible refine (CFI.out _ B3.out).mono ?_); rintro y w4 ⟨rfl, b4⟩; have B4 := Lib.hid (B3.out.trans (b4.mono B3.out.size)); have r0 := (HT.out.on B4.out).c_ 0; have r1 := (HT.out.on B4.out).lt; clear b4))
      have R4 := Lib.hid (HR.out.on B4.out)
      have X4 := Lib.hid (HX.out.on B4.out)
      have T4 := Lib.hid (HT.out.on B4.out)
      have F4 := Lib.hid (HF.out.step (Fr.of_below (S := (· = g)) B4.out (Nat.le_refl _)))
      clear HR HX HT HF B4 r0 r1
      refine wp_region_noPanic ?_
      refine wp_region_held_drew (S := fun W => Fr (· = g) w4 W ∧ ∃ e', Rdr W g s I e') (by kernel_rfl) ⟨Fr.of_below ((Below.refl _ _).drew) (Nat.le_refl _), 0, R4.out.on ((Below.refl _ _).drew)⟩ (fun _ => ?_)
      obtain ⟨wd, hwd⟩ : ∃ wd, w4.drew = wd := ⟨_, rfl⟩
      have sb : Below w4.heap.size w4 wd := by rw [<- hwd]; exact (Below.refl _ _).drew
      have R4d := Lib.hid (R4.out.on sb)
      have sd : Fr (· = g) w4 wd ∧ ∃ e', Rdr wd g s I e' := ⟨Fr.of_below sb (Nat.le_refl _), 0, R4d.out⟩
      rw [hwd]
      clear hwd
      refine takeT 0 (some 35) ?vf0 ?hyf0 sd ?restf0
      case hyf0 => (intro o ho W hW; simp only [gT, gS, gZ, sI] at ho; subst ho; (try dsimp only at hW); have q0 := (X4.out.fr hW.1 (fun i h1 h2 => by omega)).a0.c_ 0; have q1 := (X4.out.fr hW.1 (fun i h1 h2 => by omega)).a0.lt; go_simp; try rfl)
      try simp only [Act.put, iT, iZ, iS]
      refine takeT 1 (some 36) ?vf1 ?hyf1 sd ?restf1
      case hyf1 => (intro o ho W hW; simp only [gT, gS, gZ, sI] at ho; subst ho; (try dsimp only at hW); have q0 := (X4.out.fr hW.1 (fun i h1 h2 => by omega)).a0.c_ 0; have q1 := (X4.out.fr hW.1 (fun i h1 h2 => by omega)).a0.lt; go_simp; try rfl)
      try simp only [Act.put, iT, iZ, iS]
      refine takeT 2 (some 37) ?vf2 ?hyf2 sd ?restf2
      case hyf2 => (intro o ho W hW; simp only [gT, gS, gZ, sI] at ho; subst ho; (try dsimp only at hW); obtain ⟨e', hr⟩ := hW.2; have q0 := hr.lt; go_simp; try rfl)
      try simp only [Act.put, iT, iZ, iS]
      refine takeT 3 (some 38) ?vf3 ?hyf3 sd ?restf3
      case hyf3 => (intro o ho W hW; simp only [gT, gS, gZ, sI] at ho; subst ho; (try dsimp only at hW); go_simp; try rfl)
      try simp only [Act.put, iT, iZ, iS]
      refine takeT 4 (some 39) ?vf4 ?hyf4 sd ?restf4
      case hyf4 => (intro o ho W hW; simp only [gT, gS, gZ, sI] at ho; subst ho; (try dsimp only at hW); obtain ⟨e', hr⟩ := hW.2; have q0 := hr.c1; have q1 := hr.lt; go_simp; try rfl)
      try simp only [Act.put, iT, iZ, iS]
      refine nextS 5 (by kernel_rfl) (by rfl) (fun o ho K hK => ?_)
      simp only [gT, gS, gZ, sI] at ho; subst ho
      go_simp
      (go_at_call 12; (with_reducible refine (HF13.out I _ R4d.out).mono ?_); rintro y w5 ⟨rfl, r5_, f5_⟩)
      have r5 : Rdr w5 g s I 13 := r5_
      have s5 : Fr (· = g) w4 w5 ∧ ∃ e', Rdr w5 g s I e' := ⟨sd.1.step f5_, 13, r5⟩
      refine hK.out _ _ s5 (fun _ => ?_)
      clear hK K
      try simp only [Act.put, iT, iZ, iS]
      refine wpAnyH_done (by kernel_rfl) ?_ _
      refine NoPanic.normal ?_
      have HR5 := Lib.hid r5
      have F5 := Lib.hid s5.1
      have t5 := s5.1.blk T4.out (by omega)
      have u0 := t5.c_ 0
      have u1 := t5.lt
      clear r5 r5_ f5_ s5 t5
      go_wp2_with fail
      go_ret
      exact ⟨A, n, c, I, 13, rfl, HR5.out, hI, F4.out.step F5.out, by rw [HEND.out]; exact D.tk_dead (by decide) (by decide), fun h0 => absurd ((congrArg D.Ot.e HEND.out).symm.trans h0) (Nat.succ_ne_zero _)⟩
    ·have h5 : (D.ns s)[I]? ≠ some 125 := fun hq => h125 (by rw [hnb, List.getD, hq]; rfl)
     rw [if_pos h5] at hend
     have i125 : ((x : Int) == 125) = false := by simp; omega
     have HEND := Kept.mk hend
     have H5 := Lib.hid h5
     clear hend hb8 h1c hnb h5 HPEL h125
     go_wp2_with (first
       | (go_at_call 22; (with_reducible refine CN.out.mono ?_); rintro y w1 ⟨rfl, b1⟩; have B1 := Lib.hid b1; clear b1)
       | (go_at_call 78; (with_reducible refine (CD.out _).mono ?_); rintro y w2 ⟨rfl, b2⟩; have B2 := Lib.hid (B1.out.trans (b2.mono B1.out.size)); have q0 := (HX.out.on B2.out).a0.c_ 0; have q1 := (HX.out.on B2.out).a0.lt; clear b2)
       | (go_at_call 22; (with_reducible refine (CN2.out _ B2.out).mono ?_); rintro y w3 ⟨rfl, b3⟩; have B3 := Lib.hid (B2.out.trans (b3.mono B2.out.size)); have r0 := (HT.out.on B3.out).c_ 0; have r1 := (HT.out.on B3.out).lt; clear b3))
     go_ret
     have hf := HF.out.step (Fr.of_below B3.out (Nat.le_refl _))
     exact ⟨A, n, c, I, 0, rfl, HR.out.on B3.out, hI, hf, by rw [HEND.out]; exact D.tk_not (by decide) H5.out, fun h0 => absurd ((congrArg D.Ot.e HEND.out).symm.trans h0) (Nat.succ_ne_zero _)⟩
   ·rw [hgoes hLI] at CD
    have CW := Lib.hid (fun W (hb : Below wo.heap.size wo W) => HW.out I A n c cs W (HR.out.on hb) hI hLI ((HX.out.a1.on hb).c_ 0) ((HT.out.on hb).c_ 0) (HO1.out.on hb).to_row hb8 hkc.2.1 (by omega) (HG.out.fr (HF.out.step (Fr.of_below hb (Nat.le_refl _)))) (fun ad e => by have := (HO1.out.lt ad.block (by rw [e]; rfl)).1; omega))
    obtain ⟨L, hL⟩ : ∃ L, D.far D.wdB (D.ns s) I = L := ⟨_, rfl⟩
    have hLs : L <= s.size := by rw [<- hL, <- hlen]; exact D.far_le (by rw [hlen]; exact hI)
    have hLI' : I < L := by have := D.far_ge D.wdB (D.ns s) I; omega
    have hgo := D.cas_go hL (by omega) HKK.out hcas rfl rfl rfl
    rw [hL] at CW
    obtain ⟨t, ht⟩ : ∃ t, D.sub (D.ns s) I L = t := ⟨_, rfl⟩
    have ht8 : ∀ b ∈ t, b < 256 := by rw [<- ht]; exact sub_lt H2.out I L
    rw [ht] at CW hgo
    have hp1 : (D.p1 k t (cs.map (·.1)) I L).1 <= s.size := by unfold D.p1; dsimp only; split <;> omega
    obtain ⟨p1, hp1e⟩ : ∃ p1, D.p1 k t (cs.map (·.1)) I L = p1 := ⟨_, rfl⟩
    rw [hp1e] at CW hgo hp1
    have CB := Lib.hid (fun tc W (hR : Rdr W g s p1.1 p1.2) (hB : Bx w.heap.size g k d v W) (hc : Blk W tc 101 #[.string (D.sb t), .slice none 0 0]) (ht : w.heap.size + 2 < tc) (hGW : Glb W g) => HB.out tc (D.sb t) p1.1 p1.2 W hp1 hR hB hc ht hGW)
    obtain ⟨p2, hp2⟩ : ∃ p2, D.tk (D.ns s) 123 p1.1 p1.2 = p2 := ⟨_, rfl⟩
    rw [hp2] at hgo CB
    have hp2l : p2.1 <= s.size := by rw [<- hp2, <- hlen]; exact D.tk_le (by decide) (by rw [hlen]; exact hp1)
    obtain ⟨o2, ho2⟩ : ∃ o2, D.o2 mm p2 = o2 := ⟨_, rfl⟩
    rw [ho2] at hgo CB
    have ho2l : o2.a <= s.size := by
     rw [<- ho2]; unfold D.o2
     split
     ·exact (HG0.out _ hp2l).1
     ·exact hp2l
    obtain ⟨p3, hp3⟩ : ∃ p3, D.tk (D.ns s) 125 o2.a o2.e = p3 := ⟨_, rfl⟩
    rw [hp3] at hgo CB
    have hp3l : p3.1 <= s.size := by rw [<- hp3, <- hlen]; exact D.tk_le (by decide) (by rw [hlen]; exact ho2l)
    have CBL := Lib.hid (fun W (hR : Rdr W g s p3.1 p3.2) => HBL.out p3.1 p3.2 W hR hp3l)
    have HGO := Kept.mk hgo
    have HKC := Kept.mk hkc
    have HB8 := Kept.mk hb8
    have HT8 := Lib.hid ht8
    have HPL := Lib.hid hLI'
    clear hgo hkc hb8 ht8 hcas hp1e hp2 ho2 hp3 ht hL HW HB HN HD HBL HF13 HFI CN2 hnb hlv HLV hends hgoes hLI
    go_wp2_with (first
     | (go_at_call 22; (with_reducible refine CN.out.mono ?_); rintro y w1 ⟨rfl, b1⟩; have B1 := Lib.hid b1; clear b1)
     | (go_at_call 78; (with_reducible refine (CD.out _).mono ?_); rintro y w2 ⟨rfl, b2⟩; have B2 := Lib.hid (B1.out.trans (b2.mono B1.out.size)); have q0 := (HX.out.on B2.out).a0.c_ 0; have q1 := (HX.out.on B2.out).a0.lt; clear b2)
     | (go_at_call 69; (with_reducible refine (CW.out _ B2.out).mono ?_); rintro y w3 ⟨rfl, r3_, f3_⟩
        have F3 := Lib.hid ((Fr.of_below (S := (· = g)) B2.out (Nat.le_refl _)).step f3_)
        have hs3 := F3.out.size
        have X3 := Lib.hid ((HX.out.fr F3.out (fun i h1 h2 => by omega)).on (below_alloc_ w3 (.cells #[.string (D.sb t), .slice none 0 0] 101)))
        have R3 := Lib.hid (r3_.on (below_alloc_ w3 (.cells #[.string (D.sb t), .slice none 0 0] 101)))
        have G3 := Lib.hid ((HG.out.fr (HF.out.step F3.out)).fr ((Fr.refl _ _).alloc (.cells #[.string (D.sb t), .slice none 0 0] 101)))
        have x0 := X3.out.a0.c_ 0
        have x1 := X3.out.a0.lt
        clear r3_ f3_)
     | (go_at_call 44; (with_reducible refine (CB.out w3.heap.size _ R3.out X3.out (Blk.new w3 _ _) (by omega) G3.out).mono ?_); rintro y w4 ⟨A4, n4, c4, rfl, r4_, b4_, f4_, p4_⟩
        have F4 := Lib.hid f4_
        have R4 := Lib.hid r4_
        have P4 := Lib.hid p4_
        have FT := Lib.hid (((F3.out.mono (S' := fun i => i = g ∨ i = w3.heap.size) (fun i _ e => Or.inl e)).alloc (.cells #[.string (D.sb t), .slice none 0 0] 101)).step f4_)
        have T4 := Lib.hid (FT.out.blk HT.out (by omega))
        have X4 := Lib.hid (HX.out.fr FT.out (fun i h1 h2 => by omega))
        have O4 := Lib.hid (HO1.out.fr FT.out (fun i h1 h2 => by omega))
        have y0 := T4.out.c_ 0
        have y1 := T4.out.lt
        have y2 := b4_.c_ 0
        have y3 := b4_.c_ 1
        have y4 := b4_.lt
        clear b4_ r4_ f4_ p4_)
     | (at_builtin; refine gapp _ case_under case_info rfl (by decide) (by decide) rfl (.tmp 21) (.tmp 23) rfl rfl (O4.out.alloc _) rfl (rw_case w4 _ rfl t (.slice A4 n4 c4)) (fun u h => by simp [ccs] at h; rcases h with rfl | rfl <;> rfl) (by omega) ?_; intro A5 c5 w5 h5 hg5 hor5
        have fa := ((Fr.refl (fun i => (Value.slice A n c).ownBlock = some i) w4).alloc (.cells #[.string (D.sb t), .slice A4 n4 c4] 101)).step (fr_own hg5)
        have OL := Lib.hid O4.out.lt
        have T5 := Lib.hid (fa.blk T4.out (fun e => by have := (O4.out.lt _ e).1; omega))
        have z0 := T5.out.c_ 0
        have z1 := T5.out.f_
        have z2 := T5.out.lt
        have fs : Fr (· = w.heap.size + 3) w5 (w5.setCell ⟨w.heap.size + 3, 0, none⟩ (.slice A5 (n + 1) c5)) := (Fr.refl _ _).setCell _ _ fun _ => rfl
        have X5 := Lib.hid ((X4.out.fr fa (fun i h1 h2 e => by have := (O4.out.lt _ e).1; omega)).fr fs (fun i h1 h2 => by omega))
        have R5 := Lib.hid ((R4.out.fr fa (fun e => by have := (O4.out.lt _ e).1; omega)).fr fs (by omega))
        have xx0 := X5.out.a0.c_ 0
        have xx1 := X5.out.a0.lt
        have H5 := Lib.hid h5
        have HOR := Lib.hid hor5
        have FS := Lib.hid fs
        have FA := Lib.hid fa
        clear h5 hg5 hor5 fs fa)
     | (go_at_call 72; (with_reducible refine (CBL.out _ R5.out).mono ?_); rintro y w6 ⟨rfl, r6_, f6_⟩; have R6 := Lib.hid r6_; have F6 := Lib.hid f6_; clear r6_ f6_))
    go_roundw
    case rel =>
     have hl5 := FA.out.size
     have hl4 := FT.out.size
     have fall : Fr (fun i => i = g ∨ i = w3.heap.size ∨ (Value.slice A n c).ownBlock = some i ∨ i = w.heap.size + 3) w4 w6 := ((FA.out.mono fun i _ e => Or.inr (Or.inr (Or.inl e))).step (FS.out.mono fun i _ e => Or.inr (Or.inr (Or.inr e)))).step (F6.out.mono fun i _ e => Or.inl e)
     have fal2 : Fr (fun i => i = g ∨ i = w3.heap.size ∨ (Value.slice A n c).ownBlock = some i ∨ i = w.heap.size + 3) wo w6 := (FT.out.mono fun i _ e => by rcases e with e | e; exact Or.inl e; exact Or.inr (Or.inl e)).step fall
     have hOl := HO1.out.lt
     refine ⟨D.wf (· == 32) (D.ns s) p3.1 p3.2, p3.2, n + 1, c5, A5, cs ++ [(t, .slice A4 n4 c4)], ?_, R6, Lib.hid (X5.out.fr F6.out (fun i h1 h2 => by omega)), Lib.hid (F6.out.blk (T5.out.put_ 0 _) (by omega)), Lib.hid ?_, Lib.hid ?_, ⟨fun h0 => ?_⟩, ⟨fun h0 => ?_⟩, by omega⟩
     ·have := D.wf_le (p := (· == 32)) (l := D.ns s) (a := p3.1) (e := p3.2) (by rw [hlen]; exact hp3l)
      omega
     ·have := H5.out
      rw [<- ccs_app] at this
      exact (this.fr FS.out (fun i h1 h2 => by omega)).fr F6.out (fun i h1 h2 => by omega)
     ·exact HF.out.trans fal2 (fun i hi e => by
       rcases e with e | e | e | e
       ·exact e
       ·omega
       ·have := (hOl _ e).1; omega
       ·omega)
     ·obtain ⟨e1, e2, e3, e4, e5, e6, e7, e8⟩ := HGO.out.1 h0
      have hq := (HG0.out (L + 1) (by omega)).2 (by rw [<- e4]; exact e5)
      rw [<- e4] at hq
      have hJ := D.far_ge (· == 32) (D.ns s) p3.1
      have eJ : D.wf (· == 32) (D.ns s) p3.1 p3.2 = D.far (· == 32) (D.ns s) p3.1 := by rw [h0]; exact D.wf_live
      have hPL := HPL.out
      refine ⟨f, ks ++ [o2.l], by omega, by omega, by rw [eJ, List.map_append]; exact e8, ?_, ?_⟩
      ·intro z hz
       rw [List.map_append] at hz
       rcases List.mem_append.1 hz with hz | hz
       ·exact HB8.out z hz
       ·simp at hz; rw [hz]; exact HT8.out
      ·have hown : ∀ q, q < w4.heap.size -> (Value.slice A5 (n + 1) c5).ownBlock = some q -> (Value.slice A n c).ownBlock = some q := fun q hq e => by
        rcases HOR.out with e' | e'
        ·rw [<- e']; exact e
        ·rw [e'] at e
         have e : w4.heap.size + 0 = q ∨ q = (w4.alloc (.cells #[.string (D.sb t), .slice A4 n4 c4] 101)).heap.size := Or.inr (by injection e with e; exact e.symm)
         simp at e
         omega
       refine (HKC.out.fr fal2 (fun q hq hF => ⟨⟨hF.1, fun e => hF.2 (hown q (by omega) e)⟩, fun e => ?_⟩)).snoc rfl ?_
       ·rcases e with e | e | e | e
        ·have := hF.1; omega
        ·have hs3 := F3.out.size; omega
        ·exact hF.2 e
        ·have := hF.1; omega
       ·have hp := P4.out e5
        have hp' := (hp.weaken (F' := fun b => w3.heap.size + 1 <= b ∧ b < w4.heap.size) (fun b hb hF => ⟨by simpa using hF, hb⟩)).fr_base fall (fun i hF hi e => by
         rcases e with e | e | e | e
         ·have := hF.1; omega
         ·have := hF.1; omega
         ·have := (OL.out _ e).2; have := (hOl _ e).2; have := F3.out.size; have := hF.1; omega
         ·have := hF.1; have := F3.out.size; omega)
        refine hp'.weaken fun b _ hF => ⟨by have := hF.1; have := F3.out.size; omega, fun e => ?_⟩
        have := (hOl _ (hown b hF.2 e)).2
        have := F3.out.size
        have := hF.1
        omega
     ·have := HGO.out.2 h0
      rw [D.wf_dead h0]
      exact this
    case measure =>
     have h6 := R6.out.rz
     rw [hmz, h6, if_pos trivial]
     split
     ·rename_i h0
      obtain ⟨e1, e2, e3, e4, e5, e6, e7, e8⟩ := HGO.out.1 h0
      have hq := (HG0.out (L + 1) (by omega)).2 (by rw [<- e4]; exact e5)
      rw [<- e4] at hq
      have hJ := D.far_ge (· == 32) (D.ns s) p3.1
      have eJ : D.wf (· == 32) (D.ns s) p3.1 p3.2 = D.far (· == 32) (D.ns s) p3.1 := by rw [h0]; exact D.wf_live
      rw [eJ]
      have hPL := HPL.out
      omega
     ·omega
  ·have CN := Lib.hid (fun W (hb : Below wo.heap.size wo W) => next_dead s g I e W (HR.out.on hb) he hI)
   have CZ := Lib.hid word_zero
   have hE := HE.out he
   have HEE := Kept.mk hE
   have HNE := Kept.mk he
   clear hE HL HE HN HD he
   go_wp2_with (first
    | (go_at_call 22; (with_reducible refine (CN.out wo (Below.refl _ _)).mono ?_); rintro y w1 ⟨rfl, b1⟩; have B1 := Lib.hid b1; clear b1)
    | (go_at_call 78; (with_reducible refine (CZ.out _).mono ?_); rintro y w2 ⟨rfl, b2⟩; have B2 := Lib.hid (B1.out.trans (b2.mono B1.out.size)); have q0 := (HX.out.on B2.out).a0.c_ 0; have q1 := (HX.out.on B2.out).a0.lt; clear b2)
    | (go_at_call 22; (with_reducible refine (CN.out _ B2.out).mono ?_); rintro y w3 ⟨rfl, b3⟩; have B3 := Lib.hid (B2.out.trans (b3.mono B2.out.size)); have r0 := (HT.out.on B3.out).c_ 0; have r1 := (HT.out.on B3.out).lt; clear b3))
   go_ret
   have hf := HF.out.step (Fr.of_below B3.out (Nat.le_refl _))
   exact ⟨A, n, c, I, e, rfl, HR.out.on B3.out, hI, hf, by rw [HEE.out.1, HEE.out.2]; exact D.tk_dead (by decide) HNE.out, fun h0 => absurd (HEE.out.2.symm.trans h0) HNE.out⟩
end Go.Proofs.YtgnjjlgmlokhmaaGreatDoor
