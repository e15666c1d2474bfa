/-
  
-/
import Derived.Test.YtgnjjlgmlokhmaaGreatDoorG19
set_option linter.unusedVariables false
set_option linter.unusedSimpArgs false
set_option maxRecDepth 100000
namespace Go.Proofs.YtgnjjlgmlokhmaaGreatDoor
open Go.RowKit

noncomputable def ldnd (v : Value) : Sem Value := Instr.loadAt 80 v
noncomputable def lvnd (a : Addr) : Sem Value := loadVar 80 a
noncomputable def stnd (p v : Value) : Sem Unit := Instr.storeAt 80 p v
noncomputable def bdnd (ps : Array (Nat × Value)) : Sem Value := Instr.build 80 ps
noncomputable def bsnd (n : Nat) (ps : Array (Nat × Value)) : Sem Value := Instr.buildSlice 22 n ps
theorem ld_nd (v : Value) : Instr.loadAt 80 v = ldnd v := rfl
theorem lv_nd (a : Addr) : loadVar 80 a = lvnd a := rfl
theorem st_nd (p v : Value) : Instr.storeAt 80 p v = stnd p v := rfl
theorem bd_nd (ps : Array (Nat × Value)) : Instr.build 80 ps = bdnd ps := rfl
theorem bs_nd (n : Nat) (ps : Array (Nat × Value)) : Instr.buildSlice 22 n ps = bsnd n ps := rfl
noncomputable def blnd (a : Addr) (w : World) : Result Value := (loadVar 80 a).run Tryz.prog w
theorem run_lvnd (w : World) (a : Addr) : (lvnd a).run Tryz.prog w = (nS.rd w a).elim (blnd a w) fun x => .ok (.agg (nS.v x)) w := by
 cases h : nS.rd w a with
 | none => rfl
 | some x => exact Shp.loadVar_of Tryz.isAgg80 Tryz.sizeOf80 (Shp.at_of h)
theorem run_ldnd (w : World) (a : Addr) : (ldnd (.pointer (some a))).run Tryz.prog w = (nS.rd w a).elim (blnd a w) fun x => .ok (.agg (nS.v x)) w := by
 rw [<- run_lvnd]; simp only [ldnd, lvnd, Instr.loadAt, Instr.sureAddr, Sem.run_bind, Sem.run_pure, Result.andThen_ok]
theorem nd_lv {w : World} {a : Addr} {x : D.Nv} (h : nS.rd w a = some x) : (loadVar 80 a).run Tryz.prog w = .ok (.agg (nS.v x)) w := (run_lvnd w a).trans (by rw [h]; rfl)
abbrev z15 : Array Value := #[.int .i64 0, .string ⟨#[]⟩, .int .u8 0, .int .u8 0, .int .u8 0, .int .u8 0, .int .u8 0, .int .u8 0, .int .u8 0, .int .u8 0, .int .u8 0, .int .u8 0, .int .u8 0, .int .u8 0, .slice none 0 0]
theorem nd_cells (y : D.Nv) : ∃ b0 b1 b2 b3 b4 b5 b6 b7 b8 b9 b10 b11 : Value, bys y.n.l = [b0, b1, b2, b3, b4, b5, b6, b7, b8, b9, b10, b11] ∧ nS.v y = #[.int .i64 (y.k : Nat), .string y.t, b0, b1, b2, b3, b4, b5, b6, b7, b8, b9, b10, b11, .slice y.A y.m y.c] := by
 obtain ⟨b0, b1, b2, b3, b4, b5, b6, b7, b8, b9, b10, b11, hn⟩ := Nm.twelve y.n
 have : bys y.n.l = [b0, b1, b2, b3, b4, b5, b6, b7, b8, b9, b10, b11] := by simpa [Nm.nc] using congrArg Array.toList hn
 exact ⟨b0, b1, b2, b3, b4, b5, b6, b7, b8, b9, b10, b11, this, by simp [Shp.v, nS, ncells, this]⟩
theorem run_stnd_new (w : World) (n : Nat) (x : D.Nv) (h : n = w.heap.size) :
  (stnd (.pointer (some ⟨n, 0, none⟩)) (.agg (nS.v x))).run Tryz.prog (w.alloc (.cells #[.int .i64 0, .string ⟨#[]⟩, .int .u8 0, .int .u8 0, .int .u8 0, .int .u8 0, .int .u8 0, .int .u8 0, .int .u8 0, .int .u8 0, .int .u8 0, .int .u8 0, .int .u8 0, .int .u8 0, .slice none 0 0] 80)) = .ok () (w.alloc (.cells (nS.v x) 80)) := by
 subst h
 exact run_storeAt_new (P := Tryz.prog) w 80 _ (nS.v x) (by rw [nS.v_size]; kernel_rfl) (by rw [nS.v_size]; rfl) (nS.v_one x)
theorem nd_st {w : World} {g : Nat} {x : D.Nv} (h : Blk w g 80 (nS.v x)) (y : D.Nv) :
  ∃ w', (stnd (.pointer (some ⟨g, 0, none⟩)) (.agg (nS.v y))).run Tryz.prog w = .ok () w' ∧ Blk w' g 80 (nS.v y) ∧ Fr (· = g) w w' := by
 have hr : (storeVar 80 ⟨g, 0, none⟩ (.agg (nS.v y))).run Tryz.prog w = .ok () (w.setRow g (nS.v y)) :=
  run_storeVar_row (P := Tryz.prog) w g _ _ (nS.v x) (nS.v y) h.out (by rw [nS.v_size]; kernel_rfl) (by rw [nS.v_size, nS.v_size]) (nS.v_one y)
 refine ⟨w.setRow g (nS.v y), ?_, ⟨?_⟩, ⟨rfl, rfl, rfl, by simp [World.setRow], fun i _ hi => ?_⟩⟩
 ·simp only [stnd, Instr.storeAt, Instr.sureAddr, Sem.run_bind, Sem.run_pure, Result.andThen_ok]
  exact hr
 ·have := h.out
  simp [World.setRow, Array.getElem?_modify, this]
 ·have hne : ¬ g = i := fun e => hi e.symm
  simp [World.setRow, Array.getElem?_modify, hne]
theorem run_bsnd (w : World) (y : D.Nv) : (bsnd 1 #[(0, .agg (nS.v y))]).run Tryz.prog w = .ok (.slice (some ⟨w.heap.size, 0, none⟩) 1 1) (w.alloc (.cells (nS.v y) 80)) := by
 obtain ⟨b0, b1, b2, b3, b4, b5, b6, b7, b8, b9, b10, b11, _, e⟩ := nd_cells y
 rw [e]
 simp [bsnd, Instr.buildSlice, go_sem]
theorem run_bdnd_1 (w : World) : (bdnd #[(0, .int .i64 1)]).run Tryz.prog w = .ok (.agg (nS.v ⟨1, ⟨#[]⟩, Nm.D.zero, none, 0, 0⟩)) w := by
 simp [bdnd, Instr.build, go_sem]
 rfl
theorem run_bdnd_5 (w : World) : (bdnd #[(0, .int .i64 5)]).run Tryz.prog w = .ok (.agg (nS.v ⟨5, ⟨#[]⟩, Nm.D.zero, none, 0, 0⟩)) w := by
 simp [bdnd, Instr.build, go_sem]
 rfl
theorem run_bdnd_0 (w : World) (u : ByteArray) : (bdnd #[(0, .int .i64 0), (1, .string u)]).run Tryz.prog w = .ok (.agg (nS.v ⟨0, u, Nm.D.zero, none, 0, 0⟩)) w := by
 simp [bdnd, Instr.build, go_sem]
 rfl
theorem nd_name {w : World} {g : Nat} {y : D.Nv} (h : Blk w g 80 (nS.v y)) (m : Nm.D.Nm) :
  ∃ w', (Nm.st 39 (.pointer (some ⟨g, 2, none⟩)) (.agg (Nm.nc m))).run Tryz.prog w = .ok () w' ∧ Blk w' g 80 (nS.v { y with n := m }) ∧ Fr (· = g) w w' := by
 have hs := run_storeCells_at (P := Tryz.prog) g 2 80 (bys m.l) 0 (nS.v y) w h.out (by rw [nS.v_size, bys_len, m.len]; decide) (bys_one m.l)
 have e : ((nS.v y).toList.take (2 + 0) ++ bys m.l ++ (nS.v y).toList.drop (2 + 0 + (bys m.l).length)).toArray = nS.v { y with n := m } := by
  rw [bys_len, m.len]
  show ((ncells y).take 2 ++ bys m.l ++ (ncells y).drop 14).toArray = (ncells { y with n := m }).toArray
  have h2 : (ncells y).drop 14 = [.slice y.A y.m y.c] := by
   show (bys y.n.l ++ [Value.slice y.A y.m y.c]).drop 12 = _
   have : 12 = (bys y.n.l).length := by rw [bys_len, y.n.len]
   rw [this, List.drop_left]
  rw [h2]
  simp [ncells]
 rw [e] at hs
 have hi : (Tryz.prog.info? 39).map (·.size) = some 12 := by kernel_rfl
 refine ⟨w.setRow g (nS.v { y with n := m }), ?_, ⟨?_⟩, ⟨rfl, rfl, rfl, by simp [World.setRow], fun i _ hi => ?_⟩⟩
 ·simp only [Nm.st, Instr.storeAt, Instr.sureAddr, Sem.run_bind, Sem.run_pure, Result.andThen_ok]
  cases hq : Tryz.prog.info? 39 with
  | none => simp [hq] at hi
  | some i =>
   have hsz : i.size = 12 := by simpa [hq] using hi
   simp [storeVar, sizeOf, typeInfo, hq, Value.cells, Nm.nc_size, hsz]
   exact hs
 ·have := h.out
  simp [World.setRow, Array.getElem?_modify, this]
 ·have hne : ¬ g = i := fun e => hi e.symm
  simp [World.setRow, Array.getElem?_modify, hne]
theorem nd_kind {w : World} {g : Nat} {y : D.Nv} (h : Blk w g 80 (nS.v y)) (k : Nat) : Blk (w.setCell ⟨g, 0, none⟩ (.int .i64 (k : Nat))) g 80 (nS.v { y with k := k }) := by
 have := h.put_ 0 (.int .i64 (k : Nat))
 have e : (nS.v y).setIfInBounds 0 (.int .i64 (k : Nat)) = nS.v { y with k := k } := by simp [Shp.v, nS, ncells]
 rwa [e] at this
theorem nd_cases {w : World} {g : Nat} {y : D.Nv} (h : Blk w g 80 (nS.v y)) (A : Option Addr) (m c : Nat) : Blk (w.setCell ⟨g, 14, none⟩ (.slice A m c)) g 80 (nS.v { y with A := A, m := m, c := c }) := by
 have := h.put_ 14 (.slice A m c)
 obtain ⟨b0, b1, b2, b3, b4, b5, b6, b7, b8, b9, b10, b11, hb, e⟩ := nd_cells y
 have e2 : (nS.v y).setIfInBounds 14 (.slice A m c) = nS.v { y with A := A, m := m, c := c } := by
  rw [e]
  simp [Shp.v, nS, ncells, hb]
 rwa [e2] at this
theorem nd_c0 {w : World} {g : Nat} {y : D.Nv} (h : Blk w g 80 (nS.v y)) : w.cell? ⟨g, 0, none⟩ = some (.int .i64 (y.k : Nat)) := by
 rw [h.c_ 0]
 simp [Shp.v, nS, ncells]
theorem nd_rd {w : World} {g : Nat} {y : D.Nv} (h : Blk w g 80 (nS.v y)) : nS.rd w ⟨g, 0, none⟩ = some y := Shp.rd_blk h
end Go.Proofs.YtgnjjlgmlokhmaaGreatDoor
namespace Go.Proofs.YtgnjjlgmlokhmaaGreatDoor
open Go.RowKit
attribute [local go_sem ↓] Go.wp_at_zero Go.wp_at_succ Nm.ld_a Nm.ld_n Nm.st_a Nm.st_n Nm.lv_a Nm.lv_n ld_nd lv_nd st_nd bd_nd bs_nd
attribute [local go_sem] Nm.run_ld_a Nm.run_ld_n Nm.run_lv_a Nm.run_lv_n Nm.rd_new Nm.rd_old Nm.rd_drew Nm.rd_drewN Nm.st_z run_lvnd run_ldnd run_stnd_new run_bsnd run_bdnd_1 run_bdnd_5 run_bdnd_0 Shp.rd_new Shp.rd_old Shp.rd_drew Shp.rd_drewN

structure By (W0 g d : Nat) (v : Bool) (w : World) : Prop where
 a0 : Blk w W0 76 #[vr g]
 a1 : Blk w (W0 + 1) 48 #[.int .i64 (d : Nat), .bool v]
theorem By.fr {W0 g d : Nat} {v : Bool} {w w' : World} {S : Nat -> Prop} (h : By W0 g d v w) (f : Fr S w w') (hS : ∀ i, W0 <= i -> i <= W0 + 1 -> ¬ S i) : By W0 g d v w' := ⟨f.blk h.a0 (hS _ (by omega) (by omega)), f.blk h.a1 (hS _ (by omega) (by omega))⟩
theorem D.plc_ex {l : List Nat} {m : Bool -> Nat -> D.Ot} {deep w : Bool} {i K J Q : Nat} (hK : D.far D.wdB l i = K) (hJ : D.far (· == 32) l (K + 1) = J) (hQ : D.far D.wdB l J = Q) : D.plc l m deep w i =
  (if K = i then D.er_ i 3
  else if Nm.D.isB (D.sub l i K) = false then D.er_ i 15
  else if l[K]? = some 125 then (⟨[.mk 1 [] (D.sub l i K) [] []], K + 1, 0⟩ : D.Ot)
  else if l[K]? ≠ some 44 then D.er_ K 3
  else if Q = J then D.er_ J 3
  else if D.kndT (D.sub l J Q) = 0 then D.er_ J 16
  else if D.kndT (D.sub l J Q) = 2 then (if l[Q]? ≠ some 125 then D.er_ Q 3 else (⟨[.mk 2 [] (D.sub l i K) [] []], Q + 1, 0⟩ : D.Ot))
  else if deep then D.er_ J 19
  else if l[Q]? ≠ some 44 then D.er_ Q 3
  else D.cas l (D.kndT (D.sub l J Q)) (D.sub l i K) (m (w || D.kndT (D.sub l J Q) == 3)) (l.length + 1) (D.far (· == 32) l (Q + 1)) [] []) := by
 subst hK hJ hQ
 rfl
def Pq (r : Nat) (o : D.Ot) (W : World) (w' : World) (y : D.Nv) : Prop :=
 o.e = 0 -> ∃ (nd : D.Nd) (A : Option Addr) (m c : Nat), o.l = [nd] ∧ y = nv nd A m c ∧ Pel (Pk (fun b => W.heap.size <= b) w' r) (fun b => W.heap.size <= b) w' nd ⟨A, m, c⟩
theorem nb_is {l : List Nat} {a c : Nat} (hc : c ≠ 0) : D.nb l a 0 = c ↔ l[a]? = some c := by
 rw [D.nb_live, List.getD]
 cases hx : l[a]? with
 | none => simp; exact fun h => hc h.symm
 | some y => simp
theorem plc_a {l : List Nat} {m : Bool -> Nat -> D.Ot} {dp v : Bool} {i K a e r : Nat} {o : D.Ot} (hK : D.far D.wdB l i = K) (hi : i <= K) (hKl : K <= l.length) (h256 : ∀ c ∈ l, c < 256) (ho : D.plc l m dp v i = o) (hx : D.nx i K (D.nmE (D.sub l i K)) = (a, e)) (hc : D.nb l a e ≠ 44) :
  D.tk l 125 a e = (o.a, o.e) ∧ ∀ W w', Pq r o W w' ⟨1, ⟨#[]⟩, D.nmR (D.sub l i K), none, 0, 0⟩ := by
 rw [D.plc_ex hK rfl rfl] at ho
 unfold D.nx at hx
 by_cases h1 : K = i
 ·rw [if_pos h1] at ho hx
  cases hx
  subst ho
  exact ⟨D.tk_dead (by decide) (Nat.succ_ne_zero _), fun W w' h0 => absurd h0 (Nat.succ_ne_zero _)⟩
 ·rw [if_neg h1] at ho hx
  have hne := sub_ex h1 hi hKl
  cases hb : Nm.D.isB (D.sub l i K) with
  | false =>
   have e1 : D.nmE (D.sub l i K) = 15 := by unfold D.nmE; rw [hb]; rfl
   rw [if_pos hb] at ho
   rw [e1] at hx
   cases hx
   subst ho
   exact ⟨D.tk_dead (by decide) (Nat.succ_ne_zero _), fun W w' h0 => absurd h0 (Nat.succ_ne_zero _)⟩
  | true =>
   have e1 : D.nmE (D.sub l i K) = 0 := by unfold D.nmE; rw [hb]; rfl
   rw [if_neg (by simp [hb])] at ho
   rw [e1] at hx
   cases hx
   rw [if_pos rfl] at hc ⊢
   have hc' : l[K]? ≠ some 44 := fun h => hc ((nb_is (by decide)).2 h)
   by_cases h5 : l[K]? = some 125
   ·rw [if_pos h5] at ho
    subst ho
    refine ⟨D.tk_live h5, fun W w' _ => ⟨_, none, 0, 0, rfl, ?_, pel_leaf (fun c hc => by cases hc) (sub_lt h256 i K)⟩⟩
    have : D.nmR (D.sub l i K) = Nm.D.pad (D.sb (D.sub l i K)) := by unfold D.nmR D.nmV; rw [if_neg hne, hb]; rfl
    rw [this]
    rfl
   ·rw [if_neg h5, if_pos hc'] at ho
    subst ho
    exact ⟨D.tk_not (by decide) h5, fun W w' h0 => absurd h0 (Nat.succ_ne_zero _)⟩
theorem plc_b {l : List Nat} {m : Bool -> Nat -> D.Ot} {dp v : Bool} {i K a e : Nat} {o : D.Ot} (hK : D.far D.wdB l i = K) (hi : i <= K) (hKl : K <= l.length) (ho : D.plc l m dp v i = o) (hx : D.nx i K (D.nmE (D.sub l i K)) = (a, e)) (hc : D.nb l a e = 44) :
  a = K ∧ e = 0 ∧ D.nmR (D.sub l i K) = Nm.D.pad (D.sb (D.sub l i K)) ∧ l[K]? = some 44 ∧ o =
   (if D.far D.wdB l (D.far (· == 32) l (K + 1)) = D.far (· == 32) l (K + 1) then D.er_ (D.far (· == 32) l (K + 1)) 3
   else if D.kndT (D.sub l (D.far (· == 32) l (K + 1)) (D.far D.wdB l (D.far (· == 32) l (K + 1)))) = 0 then D.er_ (D.far (· == 32) l (K + 1)) 16
   else if D.kndT (D.sub l (D.far (· == 32) l (K + 1)) (D.far D.wdB l (D.far (· == 32) l (K + 1)))) = 2 then (if l[D.far D.wdB l (D.far (· == 32) l (K + 1))]? ≠ some 125 then D.er_ (D.far D.wdB l (D.far (· == 32) l (K + 1))) 3 else (⟨[.mk 2 [] (D.sub l i K) [] []], D.far D.wdB l (D.far (· == 32) l (K + 1)) + 1, 0⟩ : D.Ot))
   else if dp then D.er_ (D.far (· == 32) l (K + 1)) 19
   else if l[D.far D.wdB l (D.far (· == 32) l (K + 1))]? ≠ some 44 then D.er_ (D.far D.wdB l (D.far (· == 32) l (K + 1))) 3
   else D.cas l (D.kndT (D.sub l (D.far (· == 32) l (K + 1)) (D.far D.wdB l (D.far (· == 32) l (K + 1))))) (D.sub l i K) (m (v || D.kndT (D.sub l (D.far (· == 32) l (K + 1)) (D.far D.wdB l (D.far (· == 32) l (K + 1)))) == 3)) (l.length + 1) (D.far (· == 32) l (D.far D.wdB l (D.far (· == 32) l (K + 1)) + 1)) [] []) := by
 rw [D.plc_ex hK rfl rfl] at ho
 unfold D.nx at hx
 have he : e = 0 := by
  by_cases he : e = 0
  ·exact he
  ·rw [D.nb_dead he] at hc; exact absurd hc (by decide)
 subst he
 by_cases h1 : K = i
 ·rw [if_pos h1] at hx
  cases hx
 ·rw [if_neg h1] at ho hx
  have hne := sub_ex h1 hi hKl
  cases hb : Nm.D.isB (D.sub l i K) with
  | false =>
   have e1 : D.nmE (D.sub l i K) = 15 := by unfold D.nmE; rw [hb]; rfl
   rw [e1] at hx
   cases hx
  | true =>
   have e1 : D.nmE (D.sub l i K) = 0 := by unfold D.nmE; rw [hb]; rfl
   rw [if_neg (by simp [hb])] at ho
   rw [e1] at hx
   have ha : K = a := by injection hx
   subst ha
   have h44 : l[K]? = some 44 := (nb_is (by decide)).1 hc
   rw [if_neg (by rw [h44]; decide), if_neg (by simp [h44])] at ho
   refine ⟨rfl, rfl, ?_, h44, ho.symm⟩
   unfold D.nmR D.nmV
   rw [if_neg hne, hb]
   rfl

theorem nd_c14 {w : World} {g : Nat} {y : D.Nv} (h : Blk w g 80 (nS.v y)) : w.cell? ⟨g, 14, none⟩ = some (.slice y.A y.m y.c) := by
 rw [h.c_ 14]
 obtain ⟨b0, b1, b2, b3, b4, b5, b6, b7, b8, b9, b10, b11, _, e⟩ := nd_cells y
 rw [e]
 rfl
theorem Glb.gt {w w' : World} {g tn : Nat} (h : Glb w g) (f : Fr (fun i => i = g ∨ i = tn) w w') (ht : tn < w.heap.size) (hne : tn ≠ 2) (hnk : tn ≠ 0) : Glb w' g := by
 have h1 : ¬ ((2 : Nat) = g ∨ (2 : Nat) = tn) := fun e => by rcases e with e | e; exact h.ne e.symm; exact hne e.symm
 have h2 : ¬ ((0 : Nat) = g ∨ (0 : Nat) = tn) := fun e => by rcases e with e | e; exact h.nk e.symm; exact hnk e.symm
 exact ⟨⟨f.cell h.e.c0 h1, f.cell h.e.c1 h1, f.cell h.e.c2 h1, f.cell h.e.c3 h1, f.cell h.e.c4 h1, f.cell h.e.c5 h1⟩, ⟨f.cell h.k.c0 h2, f.cell h.k.c1 h2, f.cell h.k.c2 h2, f.cell h.k.c3 h2, f.cell h.k.c4 h2⟩, h.ne, h.nk⟩
theorem knd_nil : D.kndT [] = 0 := rfl
theorem plc_c {l : List Nat} {d kk : Nat} {nm : List Nat} {dp : Bool} {J Q r : Nat} {o c : D.Ot} (hQ : D.far D.wdB l J = Q) (hk : D.kndT (D.sub l J Q) = kk) (hkk : kk = 0 ∨ kk = 2) (hnm : ∀ c ∈ nm, c < 256)
  (ho : o = (if Q = J then D.er_ J 3 else if kk = 0 then D.er_ J 16 else if kk = 2 then (if l[Q]? ≠ some 125 then D.er_ Q 3 else (⟨[.mk 2 [] nm [] []], Q + 1, 0⟩ : D.Ot)) else c)) :
  D.tk l 125 (D.nx J Q (D.kdE d kk)).1 (D.nx J Q (D.kdE d kk)).2 = (o.a, o.e) ∧ ∀ W w', Pq r o W w' ⟨kk, ⟨#[]⟩, Nm.D.pad (D.sb nm), none, 0, 0⟩ := by
 unfold D.nx
 by_cases h1 : Q = J
 ·rw [if_pos h1] at ho ⊢
  subst ho
  exact ⟨D.tk_dead (by decide) (Nat.succ_ne_zero _), fun W w' h0 => absurd h0 (Nat.succ_ne_zero _)⟩
 ·rw [if_neg h1] at ho ⊢
  rcases hkk with rfl | rfl
  ·rw [if_pos rfl] at ho
   subst ho
   exact ⟨D.tk_dead (by decide) (Nat.succ_ne_zero _), fun W w' h0 => absurd h0 (Nat.succ_ne_zero _)⟩
  ·rw [if_neg (by decide), if_pos rfl] at ho
   have e2 : D.kdE d 2 = 0 := rfl
   rw [e2]
   by_cases h5 : l[Q]? = some 125
   ·rw [if_neg (by simp [h5])] at ho
    subst ho
    exact ⟨D.tk_live h5, fun W w' _ => ⟨_, none, 0, 0, rfl, rfl, pel_leaf (fun c hc => by cases hc) hnm⟩⟩
   ·rw [if_pos h5] at ho
    subst ho
    exact ⟨D.tk_not (by decide) h5, fun W w' h0 => absurd h0 (Nat.succ_ne_zero _)⟩
set_option maxHeartbeats 8000000 in
theorem placeC (s : ByteArray) (g W0 tn d r i : Nat) (v dp : Bool) (m : Bool -> Nat -> D.Ot) (o : D.Ot) (W : World) (hs : s.size <= 60) (hi : i <= s.size) (h : Rdr W g s i 0) (hB : By W0 g d v W) (hN : Blk W tn 80 (nS.v ⟨1, ⟨#[]⟩, Nm.D.zero, none, 0, 0⟩)) (hg0 : g < W0) (ht : W0 + 1 < tn) (hG : Glb W g) (hne1 : tn ≠ 2) (hne2 : tn ≠ 0)
  (ho : D.plc (D.ns s) m dp v i = o) (hd : dp = true -> d = 3)
  (hm : dp = false -> d < 3 ∧ ∃ r', r = r' + 1 ∧ (∀ vv q W', q <= s.size -> Rdr W' g s q 0 -> Glb W' g -> Calls Tryz.prog 11 #[vr g, .agg #[.int .i64 ((d : Int) + 1), .bool vv]] W' (Mq s g r' (m vv q) W')) ∧ ∀ vv q, q <= s.size -> (m vv q).a <= s.size ∧ ((m vv q).e = 0 -> q <= (m vv q).a)) :
  Calls Tryz.prog 45 #[vr W0, vr tn, vr (W0 + 1)] W fun x w' => x = .returned (.tuple #[]) ∧ ∃ a2 e2, Rdr w' g s a2 e2 ∧ a2 <= s.size ∧ D.tk (D.ns s) 125 a2 e2 = (o.a, o.e) ∧ ∃ y, Blk w' tn 80 (nS.v y) ∧ Fr (fun i => i = g ∨ i = tn) W w' ∧ Pq r o W w' y := by
 have hlen := D.ns_len s
 have h256 := ns_lt s
 have hd3 : d <= 3 := by
  cases dp with
  | true => exact Nat.le_of_eq (hd rfl)
  | false => exact Nat.le_of_lt (hm rfl).1
 have hn := rname_any s g i W h hi (by omega)
 have HNx := Lib.hid (fun a e W (hW : Rdr W g s a e) (ha : a <= s.size) => next_any s g a e W hW ha)
 have HCm := Lib.hid (fun a e W (hW : Rdr W g s a e) (ha : a <= s.size) => comma_any s g a e W hW ha (by omega))
 have HKd := Lib.hid (fun a W (hW : Rdr W g s a 0) (ha : a <= s.size) (hGW : Glb W g) => rkind_any s g a d v W hW ha (by omega) hGW.k hGW.nk hd3)
 have HCs := Lib.hid (fun i' k r' vv nm mm o' W' (hd' : d < 3) (hk : k = 3 ∨ k = 4) (hi' : i' <= s.size) (hW : Rdr W' g s i' 0) (hGW : Glb W' g) (hnm : ∀ x ∈ nm, x < 256) => cases_any s g i' k d r' vv nm mm o' W' hs hd' hk hi' hW hGW hnm)
 have HCd := Lib.hid (fun a e k vv W' (hW : Rdr W' g s a e) (he : e ≠ 0) (ha : a <= s.size) => cases_dead s g a e d k vv W' hW he ha)
 obtain ⟨l, hl⟩ : ∃ l, D.ns s = l := ⟨_, rfl⟩
 rw [hl] at hn hlen h256 ho HNx HCm HKd HCs ⊢
 obtain ⟨K, hK⟩ : ∃ K, D.far D.wdB l i = K := ⟨_, rfl⟩
 rw [hK] at hn
 have hK1 : i <= K := hK ▸ D.far_ge _ _ _
 have hK2 : K <= l.length := hK ▸ D.far_le (by rw [hlen]; exact hi)
 obtain ⟨p, hp⟩ : ∃ p, D.nx i K (D.nmE (D.sub l i K)) = p := ⟨_, rfl⟩
 obtain ⟨a1, e1⟩ := p
 have ha1 : a1 <= s.size := by
  have : (D.nx i K (D.nmE (D.sub l i K))).1 <= s.size := by
   unfold D.nx
   split
   ·exact hi
   ·dsimp only; split <;> omega
  rw [hp] at this; exact this
 rw [hp] at hn
 have pa := plc_a (m := m) (dp := dp) (v := v) (r := r) hK hK1 hK2 h256 ho hp
 have pb := plc_b (m := m) (dp := dp) (v := v) hK hK1 hK2 ho hp
 have hnm8 := sub_lt h256 i K
 obtain ⟨M, hM⟩ : ∃ M, D.nmR (D.sub l i K) = M := ⟨_, rfl⟩
 rw [hM] at hn pa pb
 obtain ⟨t, htt⟩ : ∃ t, D.sub l i K = t := ⟨_, rfl⟩
 rw [htt] at pb hnm8
 have CNm := Lib.hid hn
 have hx256 := D.nb_lt h256 a1 e1
 have HNx1 := Lib.hid (fun W' (hW : Rdr W' g s a1 e1) => HNx.out a1 e1 W' hW ha1)
 obtain ⟨x, hx⟩ : ∃ x, D.nb l a1 e1 = x := ⟨_, rfl⟩
 rw [hx] at HNx1 pa pb
 have BB := Lib.hid hB
 have BN := Lib.hid hN
 have HG := Lib.hid hG
 have b0 := hB.a0.c_ 0
 have b1 := hB.a0.lt
 have htl := hN.lt
 have hgl := h.lt
 have HL := Kept.mk hl
 have HM := Lib.hid hm
 have HD := Lib.hid hd
 clear hn hl hp hM htt hx hB hN hG h hm hd
 by_cases h44 : x = 44
 ·subst h44
  obtain ⟨rfl, rfl, hM_, hl44, ho'⟩ := pb rfl
  have HMM := Kept.mk hM_
  clear hM_
  clear pa pb
  have hKl := (List.getElem?_eq_some_iff.1 hl44).1
  obtain ⟨J, hJ⟩ : ∃ J, D.far (· == 32) l (a1 + 1) = J := ⟨_, rfl⟩
  rw [hJ] at ho'
  have hJ1 : a1 + 1 <= J := hJ ▸ D.far_ge _ _ _
  have hJ2 : J <= s.size := by rw [<- hJ, <- hlen]; exact D.far_le (by omega)
  have hcm : D.cm l a1 0 = (J, 0) := by unfold D.cm; rw [D.tk_live hl44]; dsimp only; rw [D.wf_live, hJ]
  have CCm := Lib.hid (fun W' (hW : Rdr W' g s a1 0) => (by have := HCm.out a1 0 W' hW ha1; rwa [hcm] at this : Calls Tryz.prog 47 #[vr g] W' fun x w' => x = .returned (.tuple #[]) ∧ Rdr w' g s J 0 ∧ Fr (· = g) W' w'))
  obtain ⟨Q, hQ⟩ : ∃ Q, D.far D.wdB l J = Q := ⟨_, rfl⟩
  have hQ1 : J <= Q := hQ ▸ D.far_ge _ _ _
  have hQ2 : Q <= s.size := by rw [<- hQ, <- hlen]; exact D.far_le (by omega)
  rw [hQ] at ho'
  have cK := fun W' (hW : Rdr W' g s J 0) (hGW : Glb W' g) => HKd.out J W' hW hJ2 hGW
  rw [hQ] at cK
  obtain ⟨kk, hkk⟩ : ∃ kk, D.kndT (D.sub l J Q) = kk := ⟨_, rfl⟩
  rw [hkk] at ho' cK
  have hkc := D.knd_cases (D.sub l J Q)
  rw [hkk] at hkc
  have hKN : Hid (∀ W', Rdr W' g s a1 0 -> Calls Tryz.prog 22 #[vr g] W' fun y w' => y = .returned (.int .u8 44) ∧ Below W'.heap.size W' w') := HNx1
  by_cases hch : kk = 0 ∨ kk = 2
  ·obtain ⟨hf1, hf2⟩ := plc_c (d := d) (dp := dp) (r := r) hQ hkk hch hnm8 ho'
   obtain ⟨p, hp⟩ : ∃ p, D.nx J Q (D.kdE d kk) = p := ⟨_, rfl⟩
   have hpa : p.1 <= s.size := by
    rw [<- hp]; unfold D.nx
    split
    ·exact hJ2
    ·dsimp only; split <;> omega
   rw [hp] at cK hf1
   have CK := Lib.hid cK
   have CH := Lib.hid (fun W' => (by have := choice_any kk W'; rwa [show (kk == 3 || kk == 4) = false by rcases hch with rfl | rfl <;> rfl] at this : Calls Tryz.prog 49 #[.int .i64 (kk : Nat)] W' fun e w' => e = .returned (.bool false) ∧ W' = w'))
   have HF1 := Kept.mk hf1
   have HF2 := Lib.hid hf2
   clear hf1 hf2 cK hp hkc hch ho' HKd HNx1 HCm
   go_enter Tryz.func45, Tryz.ntmps45
   go_wp2_with (first
    | (go_at_call 46; (with_reducible refine CNm.out.mono ?_); rintro y w1 ⟨rfl, r1_, f1_⟩
       obtain ⟨w2, hst, n2_, f2_⟩ := nd_name (f1_.blk BN.out (by omega)) M
       have R2 := Lib.hid (r1_.fr f2_ (by omega))
       have F2 := Lib.hid ((f1_.mono (S' := fun i => i = g ∨ i = tn) fun i _ e => Or.inl e).step (f2_.mono fun i _ e => Or.inr e))
       have B2 := Lib.hid (BB.out.fr F2.out (fun i h1 h2 => by omega))
       have N2 := Lib.hid n2_
       have G2 := Lib.hid (HG.out.fr f1_)
       have FN2 := Lib.hid f2_
       have q0 := B2.out.a0.c_ 0
       have q1 := B2.out.a0.lt
       clear r1_ f1_ n2_ f2_)
    | (go_at_call 22; (with_reducible refine (hKN.out _ R2.out).mono ?_); rintro y w3 ⟨rfl, b3_⟩
       have R3 := Lib.hid (R2.out.on b3_)
       have F3 := Lib.hid (F2.out.step (Fr.of_below b3_ (Nat.le_refl _)))
       have B3 := Lib.hid (B2.out.fr (Fr.of_below (S := (· = g)) b3_ (Nat.le_refl _)) (fun i h1 h2 => by omega))
       have N3 := Lib.hid (N2.out.on b3_)
       have s0 := B3.out.a0.c_ 0
       have s1 := B3.out.a0.lt
       clear b3_)
    | (go_at_call 47; (with_reducible refine (CCm.out _ R3.out).mono ?_); rintro y w4 ⟨rfl, r4_, f4_⟩
       have R4 := Lib.hid r4_
       have F4 := Lib.hid (F3.out.step (f4_.mono fun i _ e => Or.inl e))
       have B4 := Lib.hid (B3.out.fr f4_ (fun i h1 h2 => by omega))
       have N4 := Lib.hid (f4_.blk N3.out (by omega))
       have G4 := Lib.hid (Glb.gt HG.out F4.out htl hne1 hne2)
       have t0 := B4.out.a0.c_ 0
       have t1 := B4.out.a0.lt
       have t2 := B4.out.a1.c_ 0
       have t3 := B4.out.a1.c_ 1
       have t4 := B4.out.a1.lt
       clear r4_ f4_)
    | (go_at_call 48; (with_reducible refine (CK.out _ R4.out G4.out).mono ?_); rintro y w5 ⟨rfl, r5_, f5_⟩
       have n5_ := f5_.blk N4.out (by omega)
       have f6_ : Fr (· = tn) w5 (w5.setCell ⟨tn, 0, none⟩ (.int .i64 (kk : Nat))) := (Fr.refl _ _).setCell _ _ fun _ => rfl
       have R6 := Lib.hid (r5_.fr f6_ (by omega))
       have F6 := Lib.hid ((F4.out.step (f5_.mono fun i _ e => Or.inl e)).step (f6_.mono fun i _ e => Or.inr e))
       have B6 := Lib.hid ((B4.out.fr f5_ (fun i h1 h2 => by omega)).fr f6_ (fun i h1 h2 => by omega))
       have N6 := Lib.hid (nd_kind n5_ kk)
       have G6 := Lib.hid (Glb.gt HG.out F6.out htl hne1 hne2)
       have m0 := n5_.f_
       have m1 := n5_.lt
       have m2 : (w5.setCell ⟨tn, 0, none⟩ (.int .i64 (kk : Nat))).cell? ⟨tn, 0, none⟩ = some (.int .i64 (kk : Nat)) := nd_c0 N6.out
       have m6 : w5.cell? ⟨tn, 0, none⟩ = some (.int .i64 ((1 : Nat) : Int)) := nd_c0 n5_
       have m3 := B6.out.a0.c_ 0
       have m4 := B6.out.a0.lt
       have m5 := N6.out.lt
       clear r5_ f5_ n5_ f6_)
    | (go_at_call 49; (with_reducible refine (CH.out _).mono ?_); rintro y w6 ⟨rfl, rfl⟩))
   go_end0
   refine ⟨rfl, p.1, p.2, R6.out, hpa, HF1.out, _, N6.out, F6.out, ?_⟩
   rw [HMM.out]
   exact HF2.out _ _
  ·have hk34 : kk = 3 ∨ kk = 4 := by omega
   have hQJ : Q ≠ J := fun e => by
    rw [e, sub_nil, knd_nil] at hkk
    omega
   rw [if_neg hQJ, if_neg (by omega), if_neg (by omega)] at ho'
   obtain ⟨p, hp⟩ : ∃ p, D.nx J Q (D.kdE d kk) = p := ⟨_, rfl⟩
   have hpe : p = if d = 3 then (J, 19) else (Q, 0) := by
    rw [<- hp]
    by_cases h3 : d = 3
    ·subst h3; rcases hk34 with rfl | rfl <;> simp [D.nx, D.kdE, hQJ]
    ·rcases hk34 with rfl | rfl <;> simp [D.nx, D.kdE, hQJ, h3]
   have hpa : p.1 <= s.size := by rw [hpe]; split <;> assumption
   rw [hp] at cK
   have CK := Lib.hid cK
   have CH := Lib.hid (fun W' => (by have := choice_any kk W'; rwa [show (kk == 3 || kk == 4) = true by rcases hk34 with rfl | rfl <;> rfl] at this : Calls Tryz.prog 49 #[.int .i64 (kk : Nat)] W' fun e w' => e = .returned (.bool true) ∧ W' = w'))
   have CC2 := Lib.hid (fun W' (hW : Rdr W' g s p.1 p.2) => HCm.out p.1 p.2 W' hW hpa)
   obtain ⟨q, hq⟩ : ∃ q, D.cm l p.1 p.2 = q := ⟨_, rfl⟩
   rw [hq] at CC2
   have hcs : ∀ W', Rdr W' g s q.1 q.2 -> Glb W' g -> Calls Tryz.prog 50 #[vr g, .int .i64 (kk : Nat), .agg #[.int .i64 (d : Nat), .bool v]] W' fun x w' => ∃ (A : Option Addr) (n c a e : Nat), x = .returned (.slice A n c) ∧ Rdr w' g s a e ∧ a <= s.size ∧ Fr (· = g) W' w' ∧ D.tk l 125 a e = (o.a, o.e) ∧ Pq r o W' w' ⟨kk, ⟨#[]⟩, M, A, n, c⟩ := by
    intro W' hW hGW
    have dead : ∀ f, f ≠ 0 -> q = (q.1, f) -> q.1 <= s.size -> o = D.er_ q.1 f -> Calls Tryz.prog 50 #[vr g, .int .i64 (kk : Nat), .agg #[.int .i64 (d : Nat), .bool v]] W' fun x w' => ∃ (A : Option Addr) (n c a e : Nat), x = .returned (.slice A n c) ∧ Rdr w' g s a e ∧ a <= s.size ∧ Fr (· = g) W' w' ∧ D.tk l 125 a e = (o.a, o.e) ∧ Pq r o W' w' ⟨kk, ⟨#[]⟩, M, A, n, c⟩ := by
     intro f hf hqf hql hoe
     have hf2 : q.2 = f := by rw [hqf]
     rw [hf2] at hW
     refine (HCd.out q.1 f kk v W' hW hf hql).mono ?_
     rintro x w' ⟨rfl, r1, f1⟩
     exact ⟨none, 0, 0, q.1, f, rfl, r1, hql, f1, by rw [hoe]; exact D.tk_dead (by decide) hf, fun h0 => by rw [hoe] at h0; exact absurd h0 hf⟩
    by_cases h3 : d = 3
    ·rw [if_pos h3] at hpe
     have hqe : q = (J, 19) := by rw [<- hq, hpe]; unfold D.cm; rw [D.tk_dead (by decide) (Nat.succ_ne_zero _)]; rw [D.wf_dead (Nat.succ_ne_zero _)]
     have hdp : dp = true := by
      cases hdp : dp with
      | true => rfl
      | false => have := (HM.out hdp).1; omega
     rw [hdp, if_pos rfl] at ho'
     exact dead 19 (Nat.succ_ne_zero _) (by rw [hqe]) (by rw [hqe]; exact hJ2) (by rw [hqe]; exact ho')
    ·rw [if_neg h3] at hpe
     have hdp : dp = false := by
      cases hdp : dp with
      | true => exact absurd (HD.out hdp) h3
      | false => rfl
     obtain ⟨hd', r', rfl, hm1, hm2⟩ := HM.out hdp
     rw [hdp, if_neg (by simp)] at ho'
     by_cases h8 : l[Q]? = some 44
     ·rw [if_neg (by simp [h8])] at ho'
      have hQl := (List.getElem?_eq_some_iff.1 h8).1
      have hqe : q = (D.far (· == 32) l (Q + 1), 0) := by rw [<- hq, hpe]; unfold D.cm; rw [D.tk_live h8]; dsimp only; rw [D.wf_live]
      rw [hqe] at hW
      rw [hlen] at ho'
      have hF : D.far (· == 32) l (Q + 1) <= s.size := by rw [<- hlen]; exact D.far_le (by omega)
      refine (HCs.out _ kk r' v t _ o W' hd' hk34 hF hW hGW hnm8 (fun q' W'' hq' hW' hG' => hm1 (v || kk == 3) q' W'' hq' hW' hG') (fun q' hq' => hm2 _ q' hq') ho'.symm).mono ?_
      rintro x w' ⟨A, n, c, a, e, rfl, r1, ha, f1, ht, hp⟩
      refine ⟨A, n, c, a, e, rfl, r1, ha, f1, by rw [<- HL.out]; exact ht, fun h0 => ?_⟩
      obtain ⟨ws, ks, e1, e2⟩ := hp h0
      exact ⟨_, A, n, c, e1, by rw [HMM.out]; rfl, e2⟩
     ·rw [if_pos h8] at ho'
      have hqe : q = (Q, 3) := by rw [<- hq, hpe]; unfold D.cm; rw [D.tk_not (by decide) h8]; dsimp only; rw [D.wf_dead (Nat.succ_ne_zero _)]
      exact dead 3 (Nat.succ_ne_zero _) (by rw [hqe]) (by rw [hqe]; exact hQ2) (by rw [hqe]; exact ho')
   have CCS := Lib.hid hcs
   clear hcs cK hp hkc hch ho' HKd HNx1 HCm hq HCs HCd hpe
   go_enter Tryz.func45, Tryz.ntmps45
   go_wp2_with (first
    | (go_at_call 46; (with_reducible refine CNm.out.mono ?_); rintro y w1 ⟨rfl, r1_, f1_⟩
       obtain ⟨w2, hst, n2_, f2_⟩ := nd_name (f1_.blk BN.out (by omega)) M
       have R2 := Lib.hid (r1_.fr f2_ (by omega))
       have F2 := Lib.hid ((f1_.mono (S' := fun i => i = g ∨ i = tn) fun i _ e => Or.inl e).step (f2_.mono fun i _ e => Or.inr e))
       have B2 := Lib.hid (BB.out.fr F2.out (fun i h1 h2 => by omega))
       have N2 := Lib.hid n2_
       have G2 := Lib.hid (HG.out.fr f1_)
       have FN2 := Lib.hid f2_
       have q0 := B2.out.a0.c_ 0
       have q1 := B2.out.a0.lt
       clear r1_ f1_ n2_ f2_)
    | (go_at_call 22; (with_reducible refine (hKN.out _ R2.out).mono ?_); rintro y w3 ⟨rfl, b3_⟩
       have R3 := Lib.hid (R2.out.on b3_)
       have F3 := Lib.hid (F2.out.step (Fr.of_below b3_ (Nat.le_refl _)))
       have B3 := Lib.hid (B2.out.fr (Fr.of_below (S := (· = g)) b3_ (Nat.le_refl _)) (fun i h1 h2 => by omega))
       have N3 := Lib.hid (N2.out.on b3_)
       have s0 := B3.out.a0.c_ 0
       have s1 := B3.out.a0.lt
       clear b3_)
    | (go_at_call 47; (with_reducible refine (CCm.out _ R3.out).mono ?_); rintro y w4 ⟨rfl, r4_, f4_⟩
       have R4 := Lib.hid r4_
       have F4 := Lib.hid (F3.out.step (f4_.mono fun i _ e => Or.inl e))
       have B4 := Lib.hid (B3.out.fr f4_ (fun i h1 h2 => by omega))
       have N4 := Lib.hid (f4_.blk N3.out (by omega))
       have G4 := Lib.hid (Glb.gt HG.out F4.out htl hne1 hne2)
       have t0 := B4.out.a0.c_ 0
       have t1 := B4.out.a0.lt
       have t2 := B4.out.a1.c_ 0
       have t3 := B4.out.a1.c_ 1
       have t4 := B4.out.a1.lt
       clear r4_ f4_)
    | (go_at_call 48; (with_reducible refine (CK.out _ R4.out G4.out).mono ?_); rintro y w5 ⟨rfl, r5_, f5_⟩
       have n5_ := f5_.blk N4.out (by omega)
       have f6_ : Fr (· = tn) w5 (w5.setCell ⟨tn, 0, none⟩ (.int .i64 (kk : Nat))) := (Fr.refl _ _).setCell _ _ fun _ => rfl
       have R6 := Lib.hid (r5_.fr f6_ (by omega))
       have F6 := Lib.hid ((F4.out.step (f5_.mono fun i _ e => Or.inl e)).step (f6_.mono fun i _ e => Or.inr e))
       have B6 := Lib.hid ((B4.out.fr f5_ (fun i h1 h2 => by omega)).fr f6_ (fun i h1 h2 => by omega))
       have N6 := Lib.hid (nd_kind n5_ kk)
       have G6 := Lib.hid (Glb.gt HG.out F6.out htl hne1 hne2)
       have m0 := n5_.f_
       have m1 := n5_.lt
       have m2 : (w5.setCell ⟨tn, 0, none⟩ (.int .i64 (kk : Nat))).cell? ⟨tn, 0, none⟩ = some (.int .i64 (kk : Nat)) := nd_c0 N6.out
       have m6 : w5.cell? ⟨tn, 0, none⟩ = some (.int .i64 ((1 : Nat) : Int)) := nd_c0 n5_
       have m3 := B6.out.a0.c_ 0
       have m4 := B6.out.a0.lt
       have m5 := N6.out.lt
       clear r5_ f5_ n5_ f6_)
    | (go_at_call 49; (with_reducible refine (CH.out _).mono ?_); rintro y w6 ⟨rfl, rfl⟩)
    | (go_at_call 47; (with_reducible refine (CC2.out _ R6.out).mono ?_); rintro y w7 ⟨rfl, r7_, f7_⟩
       have R7 := Lib.hid r7_
       have F7 := Lib.hid (F6.out.step (f7_.mono fun i _ e => Or.inl e))
       have B7 := Lib.hid (B6.out.fr f7_ (fun i h1 h2 => by omega))
       have N7 := Lib.hid (f7_.blk N6.out (by omega))
       have G7 := Lib.hid (G6.out.fr f7_)
       have u0 := B7.out.a0.c_ 0
       have u1 := B7.out.a0.lt
       have u2 := B7.out.a1.c_ 0
       have u3 := B7.out.a1.c_ 1
       have u4 := B7.out.a1.lt
       have u5 : w7.cell? ⟨tn, 0, none⟩ = some (.int .i64 (kk : Nat)) := nd_c0 N7.out
       have u6 := N7.out.lt
       clear r7_ f7_)
    | (go_at_call 50; (with_reducible refine (CCS.out _ R7.out G7.out).mono ?_); rintro y w8 ⟨A8, n8, c8, a8, e8, rfl, r8_, h8_, f8_, t8_, p8_⟩
       have R8 := Lib.hid r8_
       have F8 := Lib.hid f8_
       have H8 := Lib.hid h8_
       have T8 := Lib.hid t8_
       have P8 := Lib.hid p8_
       have N8 := Lib.hid (f8_.blk N7.out (by omega))
       have v0 := N8.out.f_
       have v2 : w8.cell? ⟨tn, 14, none⟩ = some (.slice none 0 0) := nd_c14 N8.out
       have v1 := N8.out.lt
       clear r8_ f8_ h8_ t8_ p8_))
   go_end0
   have f9 : Fr (· = tn) w8 (w8.setCell ⟨tn, 14, none⟩ (.slice A8 n8 c8)) := (Fr.refl _ _).setCell _ _ fun _ => rfl
   have hsz := F7.out.size
   refine ⟨rfl, a8, e8, R8.out.fr f9 (by omega), H8.out, T8.out, _, nd_cases N8.out A8 n8 c8, (F7.out.step (F8.out.mono fun i _ e => Or.inl e)).step (f9.mono fun i _ e => Or.inr e), fun h0 => ?_⟩
   obtain ⟨nd, A, m', c, e1, e2, e3⟩ := P8.out h0
   refine ⟨nd, A, m', c, e1, e2, ?_⟩
   have e4 := e3.fr f9 (fun i hF hi e => by have e' : i = tn := e; have hF' : w7.heap.size <= i := hF; omega)
   exact e4.weaken fun b _ hb => Nat.le_trans hsz hb
 ·obtain ⟨hf1, hf2⟩ := pa h44
  clear pa pb
  have i44 : ((x : Int) != 44) = true := by simp; omega
  have HF1 := Kept.mk hf1
  have HF2 := Lib.hid hf2
  clear hf1 hf2 h44 HKd HCm HCs HCd
  go_enter Tryz.func45, Tryz.ntmps45
  go_wp2_with (first
    | (go_at_call 46; (with_reducible refine CNm.out.mono ?_); rintro y w1 ⟨rfl, r1_, f1_⟩
       obtain ⟨w2, hst, n2_, f2_⟩ := nd_name (f1_.blk BN.out (by omega)) M
       have R2 := Lib.hid (r1_.fr f2_ (by omega))
       have F2 := Lib.hid ((f1_.mono (S' := fun i => i = g ∨ i = tn) fun i _ e => Or.inl e).step (f2_.mono fun i _ e => Or.inr e))
       have B2 := Lib.hid (BB.out.fr F2.out (fun i h1 h2 => by omega))
       have N2 := Lib.hid n2_
       have G2 := Lib.hid (HG.out.fr f1_)
       have FN2 := Lib.hid f2_
       have q0 := B2.out.a0.c_ 0
       have q1 := B2.out.a0.lt
       clear r1_ f1_ n2_ f2_)
    | (go_at_call 22; (with_reducible refine (HNx1.out _ R2.out).mono ?_); rintro y w3 ⟨rfl, b3_⟩
       have R3 := Lib.hid (R2.out.on b3_)
       have F3 := Lib.hid (F2.out.step (Fr.of_below b3_ (Nat.le_refl _)))
       have B3 := Lib.hid (B2.out.fr (Fr.of_below (S := (· = g)) b3_ (Nat.le_refl _)) (fun i h1 h2 => by omega))
       have N3 := Lib.hid (N2.out.on b3_)
       have s0 := B3.out.a0.c_ 0
       have s1 := B3.out.a0.lt
       clear b3_))
  refine bodyPost_ret (v := .tuple #[]) (by simp [results, Tryz.results45, go_sem]) rfl ?_
  exact ⟨rfl, a1, e1, R3.out, ha1, HF1.out, _, N3.out, F3.out, HF2.out _ _⟩

theorem D.cas_le {l : List Nat} {k : Nat} {nm : List Nat} {m : Nat -> D.Ot} (hm : ∀ q, q <= l.length -> (m q).a <= l.length) : ∀ (f i : Nat) (ws : List (List Nat)) (ks : List (List D.Nd)), i <= l.length -> (D.cas l k nm m f i ws ks).a <= l.length
 | 0, i, ws, ks, hi => by rw [D.cas]; exact hi
 | f + 1, i, ws, ks, hi => by
  have hF : D.far D.wdB l i <= l.length := D.far_le hi
  rw [D.cas_eq rfl]
  split
  ·split
   ·exact hi
   ·rename_i h5
    split
    ·exact hi
    ·have := (List.getElem?_eq_some_iff.1 (Decidable.not_not.1 h5)).1
     show i + 1 <= _
     omega
  ·split
   ·exact hi
   ·split
    ·exact hF
    ·rename_i h5
     have h5 := (List.getElem?_eq_some_iff.1 (Decidable.not_not.1 h5)).1
     have h6 := hm (D.far D.wdB l i + 1) (by omega)
     split
     ·exact h6
     ·split
      ·exact h6
      ·rename_i h7
       have h7 := (List.getElem?_eq_some_iff.1 (Decidable.not_not.1 h7)).1
       exact D.cas_le hm f _ _ _ (D.far_le (by omega))
theorem D.plc_le {l : List Nat} {m : Bool -> Nat -> D.Ot} {dp w : Bool} (hm : dp = false -> ∀ v q, q <= l.length -> (m v q).a <= l.length) {i : Nat} (hi : i <= l.length) : (D.plc l m dp w i).a <= l.length := by
 have hK : D.far D.wdB l i <= l.length := D.far_le hi
 rw [D.plc_ex rfl rfl rfl]
 split
 ·exact hi
 ·split
  ·exact hi
  ·split
   ·rename_i h5
    have := (List.getElem?_eq_some_iff.1 h5).1
    show _ + 1 <= _
    omega
   ·split
    ·exact hK
    ·rename_i h5
     have h5 := (List.getElem?_eq_some_iff.1 (Decidable.not_not.1 h5)).1
     have hJ : D.far (· == 32) l (D.far D.wdB l i + 1) <= l.length := D.far_le (by omega)
     have hQ : D.far D.wdB l (D.far (· == 32) l (D.far D.wdB l i + 1)) <= l.length := D.far_le hJ
     split
     ·exact hJ
     ·split
      ·exact hJ
      ·split
       ·split
        ·exact hQ
        ·rename_i h7
         have := (List.getElem?_eq_some_iff.1 (Decidable.not_not.1 h7)).1
         show _ + 1 <= _
         omega
       ·split
        ·exact hJ
        ·rename_i hdp
         split
         ·exact hQ
         ·rename_i h7
          have h7 := (List.getElem?_eq_some_iff.1 (Decidable.not_not.1 h7)).1
          exact D.cas_le (hm (by simpa using hdp) _) _ _ _ _ (D.far_le (by omega))
theorem D.mes_le {l : List Nat} {w : Bool} {p : Nat -> D.Ot} (hp : ∀ q, q <= l.length -> (p q).a <= l.length) : ∀ (f i : Nat) (acc : List D.Nd), i <= l.length -> (D.mes l w p f i acc).a <= l.length
 | 0, i, acc, hi => by rw [D.mes]; exact hi
 | f + 1, i, acc, hi => by
  have hF : D.far (D.plB w) l i <= l.length := D.far_le hi
  rw [D.mes_eq rfl rfl]
  split
  ·rename_i h5
   have := (List.getElem?_eq_some_iff.1 h5).1
   exact D.mes_le hp f _ _ (by omega)
  ·split
   ·exact hF
   ·rename_i h5
    have h5 := (List.getElem?_eq_some_iff.1 (Decidable.not_not.1 h5)).1
    have h6 := hp (D.far (D.plB w) l i + 1) (by omega)
    split
    ·exact h6
    ·exact D.mes_le hp f _ _ h6
theorem D.msg_le (l : List Nat) : ∀ (r : Nat) (w : Bool) (i : Nat), i <= l.length -> (D.msg l r w i).a <= l.length
 | 0, w, i, hi => D.mes_le (fun q hq => D.plc_le (fun h => by cases h) hq) _ _ _ hi
 | r + 1, w, i, hi => D.mes_le (fun q hq => D.plc_le (fun _ v q' hq' => D.msg_le l r v q' hq') hq) _ _ _ hi
theorem Pq.fr {r : Nat} {o : D.Ot} {W w w' : World} {y : D.Nv} {S : Nat -> Prop} (h : Pq r o W w y) (f : Fr S w w') (hS : ∀ i, W.heap.size <= i -> i < w.heap.size -> ¬ S i) : Pq r o W w' y := fun h0 => by
 obtain ⟨nd, A, m, c, e1, e2, e3⟩ := h h0
 exact ⟨nd, A, m, c, e1, e2, e3.fr f hS⟩
theorem Pq.low {r : Nat} {o : D.Ot} {W W' w : World} {y : D.Nv} (h : Pq r o W w y) (hs : W'.heap.size <= W.heap.size) : Pq r o W' w y := fun h0 => by
 obtain ⟨nd, A, m, c, e1, e2, e3⟩ := h h0
 exact ⟨nd, A, m, c, e1, e2, e3.weaken fun b _ hb => Nat.le_trans hs hb⟩
def Plq (s : ByteArray) (g r : Nat) (o : D.Ot) (w : World) (x : Ending) (w' : World) : Prop :=
 ∃ y, x = .returned (.agg (nS.v y)) ∧ Rdr w' g s o.a o.e ∧ Fr (· = g) w w' ∧ Pq r o w w' y
set_option maxHeartbeats 4000000 in
theorem place_p (s : ByteArray) (g d r i : Nat) (v dp : Bool) (m : Bool -> Nat -> D.Ot) (o : D.Ot) (w : World) (hs : s.size <= 60) (hi : (D.ns s)[i]? = some 123) (h : Rdr w g s i 0) (hG : Glb w g)
  (ho : D.plc (D.ns s) m dp v (i + 1) = o) (hd : dp = true -> d = 3)
  (hm : dp = false -> d < 3 ∧ ∃ r', r = r' + 1 ∧ (∀ vv q W', q <= s.size -> Rdr W' g s q 0 -> Glb W' g -> Calls Tryz.prog 11 #[vr g, .agg #[.int .i64 ((d : Int) + 1), .bool vv]] W' (Mq s g r' (m vv q) W')) ∧ ∀ vv q, q <= s.size -> (m vv q).a <= s.size ∧ ((m vv q).e = 0 -> q <= (m vv q).a)) :
  Calls Tryz.prog 23 #[vr g, .agg #[.int .i64 (d : Nat), .bool v]] w (Plq s g r o w) := by
 have hlen := D.ns_len s
 have hil := (List.getElem?_eq_some_iff.1 hi).1
 have hgl := h.lt
 have hwl : 2 < w.heap.size := World.block_lt_of_cell? w _ hG.e.c0
 have hkl : 0 < w.heap.size := World.block_lt_of_cell? w _ hG.k.c0
 obtain ⟨W, hW⟩ : ∃ W, (((w.alloc (.cells #[vr g] 76)).alloc (.cells #[.int .i64 (d : Nat), .bool v] 48)).alloc (.cells z15 80)).alloc (.cells (nS.v ⟨1, ⟨#[]⟩, Nm.D.zero, none, 0, 0⟩) 80) = W := ⟨_, rfl⟩
 have hb : Below w.heap.size w W := by rw [<- hW]; exact (((Below.refl _ _).alloc (Nat.le_refl _) _).alloc (by simp) _).alloc (by simp; omega) _ |>.alloc (by simp; omega) _
 have hsz : W.heap.size = w.heap.size + 4 := by rw [<- hW]; simp
 have hB : By w.heap.size g d v W := by
  rw [<- hW]
  exact ⟨((Blk.new w _ _).alloc _).alloc _ |>.alloc _, ((blk_new_ (by simp)).alloc _).alloc _⟩
 have hZ : Blk W (w.heap.size + 2) 80 (nS.v zNv) := by rw [<- hW]; exact (blk_new_ (by simp)).alloc _
 have hN : Blk W (w.heap.size + 3) 80 (nS.v ⟨1, ⟨#[]⟩, Nm.D.zero, none, 0, 0⟩) := by rw [<- hW]; exact blk_new_ (by simp)
 have hGW : Glb W g := hG.fr (Fr.of_below hb (Nat.le_refl _))
 have key := braced_place s g i 0 o.a o.e w.heap.size (w.heap.size + 3) (w.heap.size + 1) (fun W2 => ∃ y, Blk W2 (w.heap.size + 3) 80 (nS.v y) ∧ Fr (fun j => j = g ∨ j = w.heap.size + 3) W W2 ∧ Pq r o W W2 y) W (h.on hb) (by omega) (by omega) (fun W' hR hF => by
  rw [D.tk_live hi] at hR
  refine (placeC s g w.heap.size (w.heap.size + 3) d r (i + 1) v dp m o W' hs (by omega) hR (hB.fr hF (fun j h1 h2 => by omega)) (hF.blk hN (show ¬ w.heap.size + 3 = g by omega)) hgl (by omega) (hGW.fr hF) (by omega) (by omega) ho hd hm).mono ?_
  rintro x w' ⟨rfl, a2, e2, r2, h2, t2, y, n2, f2, p2⟩
  exact ⟨rfl, a2, e2, r2, h2, t2, y, n2, (hF.mono fun j _ e => Or.inl e).step f2, p2.low hF.size⟩)
 subst hW
 have KEY := Lib.hid key
 have HZ := Lib.hid hZ
 have HB := Lib.hid hb
 clear key h hG hGW hm hd ho hB hZ hN hi
 rw [show nS.v ⟨1, ⟨#[]⟩, Nm.D.zero, none, 0, 0⟩ = nS.v ⟨1, ⟨#[]⟩, Nm.D.zero, none, 0, 0⟩ from rfl] at KEY
 go_enter Tryz.func23, Tryz.ntmps23
 go_wp2_with (first
  | (go_at_call 44; (with_reducible refine KEY.out.mono ?_); rintro x w1 ⟨rfl, r1_, w2, ⟨y, n2_, f2_, p2_⟩, f1_⟩
     have fz := (f2_.mono (S' := fun j => j = g ∨ j = w.heap.size + 3) (fun j _ e => e)).step (f1_.mono fun j _ e => Or.inl e)
     obtain ⟨w9, hst, b9, f9⟩ := nd_st (fz.blk HZ.out (by omega)) y
     have N1 := f1_.blk n2_ (by omega)
     have hrd := nd_rd N1
     have hrd9 := nd_rd b9
     have F9 := Lib.hid f9
     have FZ := Lib.hid fz
     have R1 := Lib.hid r1_
     have P2 := Lib.hid p2_
     have F1 := Lib.hid f1_
     have F2 := Lib.hid f2_
     clear r1_ n2_ f2_ p2_ f1_ N1 b9 f9 fz))
 refine bodyPost_ret (v := .agg (nS.v y)) (by have h1 := nd_lv hrd9; simp only [results, Tryz.results23]; simp [Sem.run_bind, Result.andThen, asAddr, h1]) rfl ?_
 have hs2 := F2.out.size
 have hs1 := F1.out.size
 refine ⟨y, rfl, R1.out.fr F9.out (by omega), (Fr.of_below HB.out (Nat.le_refl _)).trans ((FZ.out.mono (S' := fun j => j = g ∨ j = w.heap.size + 2 ∨ j = w.heap.size + 3) (fun j _ e => by rcases e with e | e; exact Or.inl e; exact Or.inr (Or.inr e))).step (F9.out.mono fun j _ e => Or.inr (Or.inl e))) (fun j hj e => by rcases e with e | e | e; exact e; omega; omega), ?_⟩
 refine ((P2.out.fr F1.out (fun j h1 h2 => by omega)).fr F9.out (fun j h1 h2 => by omega)).low (by omega)
end Go.Proofs.YtgnjjlgmlokhmaaGreatDoor
