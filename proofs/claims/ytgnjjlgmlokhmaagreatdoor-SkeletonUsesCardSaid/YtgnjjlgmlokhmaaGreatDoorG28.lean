/-
  
-/
import Derived.Test.YtgnjjlgmlokhmaaGreatDoorG24
import Derived.Test.YtgnjjlgmlokhmaaGreatDoorG27
set_option linter.unusedVariables false
set_option linter.unusedSimpArgs false
set_option maxRecDepth 100000
namespace Go.Proofs.YtgnjjlgmlokhmaaGreatDoor
namespace D
def gtC (k : Nat) (m : Nm.D.Nm) (G : List Nd -> List Uv) : List (List Nat) -> List (List Nd) -> List Uv
 | w :: ws, q :: ks => (if k = 4 then [⟨m, 4, sb w⟩] else []) ++ (G q ++ gtC k m G ws ks)
 | [], _ => []
 | _ :: _, [] => []
def gtO (k : Nat) (m : Nm.D.Nm) : List Uv := if k = 1 then [⟨m, 1, ⟨#[]⟩⟩] else if k = 2 ∨ k = 3 then [⟨m, 2, ⟨#[]⟩⟩] else []
def gtP (G : List Nd -> List Uv) (x : Nd) : List Uv := gtO x.k (pnm x) ++ gtC x.k (pnm x) G x.ws x.ks
def gtL (G : List Nd -> List Uv) : List Nd -> List Uv
 | [] => []
 | x :: l => gtP G x ++ gtL G l
def gth : Nat -> List Nd -> List Uv
 | 0, l => gtL (fun _ => []) l
 | r + 1, l => gtL (gth r) l
def insA : List Uv -> List Uv -> List Uv
 | L, [] => L
 | L, x :: l => insA (ins L x) l
theorem insA_app : ∀ (L a b : List Uv), insA L (a ++ b) = insA (insA L a) b
 | L, [], b => rfl
 | L, x :: a, b => by simp [insA, insA_app (ins L x) a b]
theorem insA_len : ∀ (L a : List Uv), (insA L a).length <= L.length + a.length
 | L, [] => by simp [insA]
 | L, x :: a => by
  have h1 := insA_len (ins L x) a
  have h2 := ins_len L x
  simp only [insA, List.length_cons]; omega
theorem insA_mem : ∀ {L a : List Uv} {y : Uv}, y ∈ insA L a ↔ y ∈ L ∨ y ∈ a
 | L, [], y => by simp [insA]
 | L, x :: a, y => by
  simp only [insA, insA_mem (L := ins L x) (a := a), ins_mem, List.mem_cons]
  constructor
  ·rintro ((rfl | h) | h)
   ·exact .inr (.inl rfl)
   ·exact .inl h
   ·exact .inr (.inr h)
  ·rintro (h | rfl | h)
   ·exact .inl (.inr h)
   ·exact .inl (.inl rfl)
   ·exact .inr h
theorem insA_nodup : ∀ {L a : List Uv}, L.Nodup -> (insA L a).Nodup
 | L, [], h => h
 | L, x :: a, h => insA_nodup (L := ins L x) (a := a) (ins_nodup x h)
theorem gtC_take {k : Nat} {m : Nm.D.Nm} {G : List Nd -> List Uv} : ∀ {ws : List (List Nat)} {ks : List (List Nd)} {j : Nat} {w : List Nat} {q : List Nd}, ws[j]? = some w -> ks[j]? = some q ->
  gtC k m G (ws.take (j + 1)) (ks.take (j + 1)) = gtC k m G (ws.take j) (ks.take j) ++ ((if k = 4 then [⟨m, 4, sb w⟩] else []) ++ G q)
 | [], _, j, w, q, h, _ => by simp at h
 | _ :: _, [], j, w, q, _, h => by simp at h
 | a :: ws, b :: ks, 0, w, q, h, h' => by
  simp at h h'
  subst h h'
  simp [gtC]
 | a :: ws, b :: ks, j + 1, w, q, h, h' => by
  simp only [List.take_succ_cons, gtC]
  rw [gtC_take (by simpa using h) (by simpa using h')]
  simp [List.append_assoc]
theorem gtL_take {G : List Nd -> List Uv} : ∀ {l : List Nd} {j : Nat} {x : Nd}, l[j]? = some x -> gtL G (l.take (j + 1)) = gtL G (l.take j) ++ gtP G x
 | [], j, x, h => by simp at h
 | y :: l, 0, x, h => by
  simp at h
  subst h
  simp [gtL]
 | y :: l, j + 1, x, h => by
  simp only [List.take_succ_cons, gtL]
  rw [gtL_take (by simpa using h), List.append_assoc]
theorem gtC_take_le {k : Nat} {m : Nm.D.Nm} {G : List Nd -> List Uv} : ∀ (ws : List (List Nat)) (ks : List (List Nd)) (j : Nat), (gtC k m G (ws.take j) (ks.take j)).length <= (gtC k m G ws ks).length
 | [], ks, j => by simp [gtC]
 | _ :: _, [], j => by cases j <;> simp [gtC]
 | a :: ws, b :: ks, 0 => by simp [gtC]
 | a :: ws, b :: ks, j + 1 => by
  have := gtC_take_le (k := k) (m := m) (G := G) ws ks j
  simp only [List.take_succ_cons, gtC, List.length_append]
  omega
theorem gtL_take_le {G : List Nd -> List Uv} : ∀ (l : List Nd) (j : Nat), (gtL G (l.take j)).length <= (gtL G l).length
 | [], j => by simp [gtL]
 | y :: l, 0 => by simp [gtL]
 | y :: l, j + 1 => by
  have := gtL_take_le (G := G) l j
  simp only [List.take_succ_cons, gtL, List.length_append]
  omega
end D
end Go.Proofs.YtgnjjlgmlokhmaaGreatDoor
namespace Go.Proofs.YtgnjjlgmlokhmaaGreatDoor
open Go.RowKit

section
variable {ST T : TypeId} {z : Value} {sz by_ : Nat}
end
theorem fr_next {w w1 w2 : World} {g : Nat} (h : Fr (· = g) w w1) (b : Below w.heap.size w1 w2) (p : Addr) (hp : p.block = g) (u : Value) : Fr (· = g) w (w2.setCell p u) :=
 ⟨b.os.trans h.os, b.tape.trans h.tape, b.output.trans h.output, by have := b.size; have := h.size; simp; omega, fun i hi hn => by
  rw [Below.heap_setCell w2 p u i (fun e => hn (e.trans hp)), b.block i hi]
  exact h.same i hi hn⟩
end Go.Proofs.YtgnjjlgmlokhmaaGreatDoor
namespace Go.Proofs.YtgnjjlgmlokhmaaGreatDoor
open Go.RowKit
attribute [local go_sem ↓] Go.wp_at_zero Go.wp_at_succ Nm.ld_a Nm.ld_n Nm.st_a Nm.st_n Nm.lv_a Nm.lv_n Nm.eq_a Nm.eq_n Nm.ne_a Nm.ne_n ld_nd lv_nd st_nd bd_nd bs_nd
attribute [local go_sem] Nm.run_ld_a Nm.run_ld_n Nm.run_lv_a Nm.run_lv_n Nm.run_eq_a Nm.run_eq_n Nm.run_ne_a Nm.run_ne_n Nm.rd_new Nm.rd_old Nm.rd_drew Nm.rd_drewN Nm.st_z run_lvnd run_ldnd run_stnd_new run_bsnd run_bdnd_1 run_bdnd_5 run_bdnd_0 Shp.rd_new Shp.rd_old Shp.rd_drew Shp.rd_drewN

theorem pel_slices {r : Nat} {F : Nat -> Prop} {w : World} {cs : List (List Nat × Value)} {ks : List (List D.Nd)} (hl : cs.length = ks.length) (h : ∀ (j : Nat) (t : List Nat) (u : Value) (q : List D.Nd), cs[j]? = some (t, u) -> ks[j]? = some q -> Pk F w r u q) : ∀ x ∈ cs, ∃ (A : Option Addr) (n c : Nat), x.2 = .slice A n c := by
 cases r with
 | zero =>
  intro x hx
  obtain ⟨j, hj, e⟩ := List.mem_iff_getElem.1 hx
  exact (h j x.1 x.2 _ (by rw [List.getElem?_eq_getElem hj, e]) (List.getElem?_eq_getElem (by omega))).elim
 | succ r => exact ccs_kids hl h
end Go.Proofs.YtgnjjlgmlokhmaaGreatDoor
namespace Go.Proofs.YtgnjjlgmlokhmaaGreatDoor
open Go.RowKit
attribute [local go_sem ↓] Go.wp_at_zero Go.wp_at_succ ld_nd lv_nd st_nd bd_nd bs_nd
attribute [local go_sem] run_lvnd run_ldnd run_stnd_new run_bsnd run_bdnd_1 run_bdnd_5 run_bdnd_0 Shp.rd_new Shp.rd_old Shp.rd_drew Shp.rd_drewN

abbrev Pv := Value × Value
def pcs : List Pv -> List Value
 | [] => []
 | p :: l => p.1 :: p.2 :: pcs l
def Isl (v : Value) : Prop := ∃ (A : Option Addr) (n c : Nat), v = .slice A n c
theorem Ow.base_ {T : TypeId} {sz base base' : Nat} {w : World} {A : Option Addr} {n c : Nat} {xs : List Value} (h : Ow T sz base w A n c xs) (hb : base' <= base) : Ow T sz base' w A n c xs := by
 refine ⟨⟨h.row.1, ?_⟩, Nat.le_trans hb h.base⟩
 rcases h.row.2 with hn | ⟨g, cap, cur, e, hg, hh, r⟩
 ·exact .inl hn
 ·exact .inr ⟨g, cap, cur, e, Nat.le_trans hb hg, hh, r⟩
end Go.Proofs.YtgnjjlgmlokhmaaGreatDoor
