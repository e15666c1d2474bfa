/-
  
-/
import Derived.Test.YtgnjjlgmlokhmaaGreatDoorGow
import Derived.LaidEql
import Derived.Maps.Own
import Derived.Test.YtgnjjlgmlokhmaaGreatDoorG28
set_option linter.unusedVariables false
set_option linter.unusedSimpArgs false
set_option maxRecDepth 100000
namespace Go.Proofs.YtgnjjlgmlokhmaaGreatDoor
open Go.RowKit

abbrev Fk := Option Addr × Option Addr × Nat
def kv (k : Fk) : Value := .agg #[.pointer k.1, .pointer k.2.1, .int .i64 (k.2.2 : Nat)]
def Pla (w : World) (x : Option Addr) : Prop := ∀ ad, x = some ad -> ∃ cs T, w.heap[ad.block]? = some (.cells cs T (0, 0))
theorem Pla.on {w w' : World} {x : Option Addr} (h : Pla w x) (b : Below w.heap.size w w') : Pla w' x := fun ad e => by
 obtain ⟨cs, T, hh⟩ := h ad e
 exact ⟨cs, T, (b.block _ (lt_of_block hh)).trans hh⟩
structure FkAt (w : World) (g : Nat) (E : List Fk) : Prop where
 out : ∃ (es : Array MapEntry) (clock : Nat), w.heap[g]? = some (.map es clock) ∧ es.toList.map (fun e => (e.key, e.val)) = E.map fun k => (kv k, Value.agg #[])
theorem FkAt.lt {w : World} {g : Nat} {E : List Fk} (h : FkAt w g E) : g < w.heap.size := by
 obtain ⟨es, clock, hb, _⟩ := h.out
 exact lt_of_block hb
theorem FkAt.on {w w' : World} {g : Nat} {E : List Fk} (h : FkAt w g E) (b : Below w.heap.size w w') : FkAt w' g E := by
 obtain ⟨es, clock, hb, r⟩ := h.out
 exact ⟨es, clock, (b.block _ h.lt).trans hb, r⟩
theorem FkAt.tow {w w' : World} {g : Nat} {E : List Fk} (h : FkAt w g E) (b : w'.heap[g]? = w.heap[g]?) : FkAt w' g E := by
 obtain ⟨es, clock, hb, r⟩ := h.out
 exact ⟨es, clock, b.trans hb, r⟩
end Go.Proofs.YtgnjjlgmlokhmaaGreatDoor
namespace Go.Proofs.YtgnjjlgmlokhmaaGreatDoor
open Go.RowKit

def All2 {α β : Type} (R : α -> β -> Prop) : List α -> List β -> Prop
 | [], [] => True
 | a :: l, b :: m => R a b ∧ All2 R l m
 | [], _ :: _ => False
 | _ :: _, [] => False
theorem All2.len {α β : Type} {R : α -> β -> Prop} : ∀ {l : List α} {m : List β}, All2 R l m -> l.length = m.length
 | [], [], _ => rfl
 | a :: l, b :: m, h => by simp [All2.len h.2]
 | [], _ :: _, h => h.elim
 | _ :: _, [], h => h.elim
theorem All2.snoc {α β : Type} {R : α -> β -> Prop} : ∀ {l : List α} {a : α} {m : List β}, All2 R (l ++ [a]) m -> ∃ m' b, m = m' ++ [b] ∧ All2 R l m' ∧ R a b
 | [], a, [], h => h.elim
 | [], a, [b], h => ⟨[], b, rfl, trivial, h.1⟩
 | [], a, b :: c :: m, h => h.2.elim
 | x :: l, a, [], h => h.elim
 | x :: l, a, b :: m, h => by
  obtain ⟨m', b', rfl, h1, h2⟩ := All2.snoc h.2
  exact ⟨b :: m', b', rfl, ⟨h.1, h1⟩, h2⟩
theorem All2.of {α β : Type} {R : α -> β -> Prop} : ∀ {l : List α} {m : List β}, l.length = m.length -> (∀ (i : Nat) (a : α) (b : β), l[i]? = some a -> m[i]? = some b -> R a b) -> All2 R l m
 | [], [], _, _ => trivial
 | [], _ :: _, h, _ => by simp at h
 | _ :: _, [], h, _ => by simp at h
 | a :: l, b :: m, hl, h => ⟨h 0 a b rfl rfl, All2.of (by simpa using hl) fun i x y hx hy => h (i + 1) x y (by simpa using hx) (by simpa using hy)⟩
structure It (w : World) (p : Pv) (z : List D.Nd × List D.Nd) : Prop where
 out : ∃ (r r' : Nat) (v v' : Bool), Pm (fun _ => True) w r p.1 z.1 ∧ Pm (fun _ => True) w r' p.2 z.2 ∧ D.Rt r v z.1 ∧ D.Rt r' v' z.2 ∧ (D.prL z.1).length <= 1000 ∧ (D.prL z.2).length <= 1000
theorem It.on {w w' : World} {p : Pv} {z : List D.Nd × List D.Nd} (h : It w p z) (b : Below w.heap.size w w') : It w' p z := by
 obtain ⟨r, r', v, v', h1, h2, h3⟩ := h.out
 exact ⟨r, r', v, v', h1.keep (keeps_below b), h2.keep (keeps_below b), h3⟩
theorem pm_len {F : Nat -> Prop} {w : World} {r : Nat} {A : Option Addr} {n c : Nat} {l : List D.Nd} (h : Pm F w r (.slice A n c) l) : l.length = n := by
 obtain ⟨_, _, _, vs, e, _, hr, rfl, _⟩ := (Pm_eq F w r _ _).1 h
 cases e
 have := hr.row.len
 rw [Shp.rcs_len, nvs_len, show nS.n = 15 from rfl] at this
 simp; omega
def ky : Pv -> Fk
 | (.slice A n _, .slice B _ _) => if n = 0 then (none, none, 0) else (A, B, n)
 | _ => (none, none, 0)
theorem It.shape {w : World} {p : Pv} {z : List D.Nd × List D.Nd} (h : It w p z) : ∃ (A B : Option Addr) (c d : Nat), p = (.slice A z.1.length c, .slice B z.2.length d) := by
 obtain ⟨r, r', v, v', h1, h2, h3⟩ := h.out
 obtain ⟨A, n, c, e⟩ := pm_slice h1
 obtain ⟨B, m, d, e'⟩ := pm_slice h2
 obtain ⟨p1, p2⟩ := p
 simp only at e e' h1 h2
 subst e e'
 rw [pm_len h1, pm_len h2]
 exact ⟨A, B, c, d, rfl⟩
theorem It.same {w : World} {p q : Pv} {z y : List D.Nd × List D.Nd} (h : It w p z) (k : It w q y) (hl : z.1.length = z.2.length) (kl : y.1.length = y.2.length) (e : ky p = ky q) : z = y := by
 obtain ⟨A, B, c, d, rfl⟩ := h.shape
 obtain ⟨A', B', c', d', rfl⟩ := k.shape
 obtain ⟨r, r', v, v', h1, h2, h3, h4, _⟩ := h.out
 obtain ⟨s, s', u, u', k1, k2, k3, k4, _⟩ := k.out
 have e : (if z.1.length = 0 then ((none, none, 0) : Fk) else (A, B, z.1.length)) = (if y.1.length = 0 then (none, none, 0) else (A', B', y.1.length)) := e
 by_cases hz : z.1.length = 0
 ·rw [if_pos hz] at e
  by_cases hy : y.1.length = 0
  ·exact Prod.ext ((List.eq_nil_of_length_eq_zero hz).trans (List.eq_nil_of_length_eq_zero hy).symm) ((List.eq_nil_of_length_eq_zero (by omega)).trans (List.eq_nil_of_length_eq_zero (l := y.2) (by omega)).symm)
  ·rw [if_neg hy] at e
   simp only [Prod.mk.injEq] at e
   omega
 ·rw [if_neg hz] at e
  by_cases hy : y.1.length = 0
  ·rw [if_pos hy] at e
   simp only [Prod.mk.injEq] at e
   omega
  ·rw [if_neg hy] at e
   simp only [Prod.mk.injEq] at e
   obtain ⟨rfl, rfl, e3⟩ := e
   simp only at h1 h2 k1 k2
   rw [<- e3] at k1
   rw [<- kl, <- e3, hl] at k2
   exact Prod.ext (pm_uniq _ _ h1 k1 h3 k3) (pm_uniq _ _ h2 k2 h4 k4)
end Go.Proofs.YtgnjjlgmlokhmaaGreatDoor
namespace Go.Proofs.YtgnjjlgmlokhmaaGreatDoor
open Go.RowKit
attribute [local go_sem ↓] Go.wp_at_zero Go.wp_at_succ Nm.ld_a Nm.ld_n Nm.st_a Nm.st_n Nm.lv_a Nm.lv_n ld_nd lv_nd st_nd bd_nd bs_nd ld_uv lv_uv st_uv bd_uv bs_uv
attribute [local go_sem] Nm.run_ld_a Nm.run_ld_n Nm.run_lv_a Nm.run_lv_n Nm.rd_new Nm.rd_old Nm.rd_drew Nm.rd_drewN Nm.st_z run_lvnd run_ldnd run_stnd_new Shp.rd_new Shp.rd_old Shp.rd_drew Shp.rd_drewN

def GaC (g : Nat) (u : Value) (w : World) (xs : List D.Uv) : Prop := ∀ W L, Fr (· = g) w W -> UsAt W g L -> L.length + xs.length <= 1000 -> Calls Tryz.prog 16 #[.map (some g), u] W fun e w' => e = .returned (.tuple #[]) ∧ UsAt w' g (D.insA L xs) ∧ Fr (· = g) W w'
theorem run_bd_1 (w : World) (m : Nm.D.Nm) : (bduv #[(0, .agg (Nm.nc m)), (1, .int .u8 1)]).run Tryz.prog w = .ok (.agg (uS.v ⟨m, 1, ⟨#[]⟩⟩)) w := run_bduv_2 w m 1
theorem run_bd_2 (w : World) (m : Nm.D.Nm) : (bduv #[(0, .agg (Nm.nc m)), (1, .int .u8 2)]).run Tryz.prog w = .ok (.agg (uS.v ⟨m, 2, ⟨#[]⟩⟩)) w := run_bduv_2 w m 2
theorem run_bd_4 (w : World) (m : Nm.D.Nm) (u : ByteArray) : (bduv #[(0, .agg (Nm.nc m)), (1, .int .u8 4), (2, .string u)]).run Tryz.prog w = .ok (.agg (uS.v ⟨m, 4, u⟩)) w := run_bduv_3 w m 4 u
attribute [local go_sem] run_bd_1 run_bd_2 run_bd_4
theorem uok_0 (m : Nm.D.Nm) (h : Nat) (hh : h < 256) : Uok ⟨m, h, ⟨#[]⟩⟩ := ⟨hh, Nat.zero_le _⟩
theorem uok_4 (m : Nm.D.Nm) {t : ByteArray} (h : t.size <= 100000) : Uok ⟨m, 4, t⟩ := ⟨(by decide : (4 : Nat) < 256), h⟩
theorem Fr.us {S : Nat -> Prop} {w w' : World} {g : Nat} {L : List D.Uv} (h : Fr S w w') (hu : UsAt w g L) (hg : ¬ S g) : UsAt w' g L := hu.tow (h.same g hu.lt hg)
theorem Fr.rf {w w' : World} {g sz n : Nat} {A : Option Addr} {xs : List Value} (h : Fr (· = g) w w') (hr : RF sz (fun i => i ≠ g) w A n xs) : RF sz (fun i => i ≠ g) w' A n xs := hr.keep (h.keeps_ fun i hi _ => hi)
theorem Fr.put {w w' : World} {g : Nat} (h : w.grownBy w' (some g)) : Fr (· = g) w w' := ⟨h.os, h.tape, h.output, h.size, fun i hi hn => h.block i hi fun e => hn (by injection e)⟩
structure Gap (g : Nat) (w : World) (G : List D.Nd -> List D.Uv) (x : D.Nd) (p : D.Sl) : Prop where
 m : p.m <= 1000
 z : x.k ≠ 1 ∧ x.k ≠ 2 ∧ x.k ≠ 3 ∧ x.k ≠ 4 -> p.m = 0
 out : ∃ cs : List (List Nat × Value), RF 2 (fun i => i ≠ g) w p.A p.m (ccs cs) ∧ cs.map (·.1) = x.ws ∧ (∀ u ∈ cs, Isl u.2) ∧ cs.length = x.ks.length ∧ (∀ t ∈ x.ws, t.length <= 1000) ∧ ∀ (q : Nat) (t : List Nat) (u : Value) (k : List D.Nd), cs[q]? = some (t, u) -> x.ks[q]? = some k -> GaC g u w (G k)

set_option maxHeartbeats 40000000 in
theorem gather_row (g n c : Nat) (A : Option Addr) (vs : List (D.Nd × D.Sl)) (w : World) (G : List D.Nd -> List D.Uv) (hr : RF 15 (fun i => i ≠ g) w A n (nS.rcs (nvs vs))) (hn : n <= 1000)
  (hp : ∀ (j : Nat) (x : D.Nd) (p : D.Sl), vs[j]? = some (x, p) -> Gap g w G x p)
  (hCl : ∀ (s : ByteArray) (W : World), s.size <= 1000000 -> Calls Tryz.prog 35 #[.string s] W fun e w' => e = .returned (.string s) ∧ Below W.heap.size W w') :
  GaC g (.slice A n c) w (D.gtL G (vs.map (·.1))) := by
 intro W L hFr hU hsz
 have hlen := hr.row.len
 rw [Shp.rcs_len, nvs_len, show nS.n = 15 from rfl] at hlen
 have hlen : vs.length = n := by omega
 have HR := Lib.hid hr
 have HP := Lib.hid hp
 have CL := Lib.hid hCl
 have HF := Lib.hid hFr
 have HU := Lib.hid hU
 clear hr hp hCl hFr hU
 go_enter Tryz.func16, Tryz.ntmps16
 go_wp2_with fail
 go_loopw [10] (fun s10 wr => ∃ j : Nat, j <= n ∧ s10 = .int .i64 j ∧ Hid (UsAt wr g (D.insA L (D.gtL G ((vs.map (·.1)).take j)))) ∧ Hid (Fr (· = g) W wr)) (fun s10 _ => n - (intOf s10).toNat)
 case atStart => exact ⟨0, Nat.zero_le _, rfl, Lib.hid (by simpa [D.gtL, D.insA] using HU.out), Lib.hid (Fr.refl _ _)⟩
 case round =>
  obtain ⟨j, hj, rfl, HUj, HFj⟩ := hrel
  obtain ⟨wo, rfl⟩ : ∃ wo : World, wo = wr := ⟨_, rfl⟩
  by_cases hlt : j < n
  ·obtain ⟨⟨x, p⟩, ht⟩ : ∃ a, vs[j]? = some a := ⟨_, List.getElem?_eq_getElem (by omega)⟩
   obtain ⟨hpm, hpz, cs, hrc, hcw, hsl, hcl, htz, hgk⟩ := HP.out j x p ht
   have hxl : (vs.map (·.1))[j]? = some x := by simp [ht]
   have hF0 : Fr (· = g) w wo := HF.out.step HFj.out
   obtain ⟨ad, rfl, hbk, hrd, _⟩ := rw_at ((hF0.rf HR.out).row) (nvs_at ht)
   obtain ⟨Y, hY⟩ : ∃ Y, nv x p.A p.m p.c = Y := ⟨_, rfl⟩
   have hYk : Y.k = x.k := by rw [<- hY]; rfl
   have hYn : D.pnm x = Y.n := by rw [<- hY]; rfl
   have hYA : Y.A = p.A := by rw [<- hY]; rfl
   obtain ⟨M, hM⟩ : ∃ M, Y.m = M := ⟨_, rfl⟩
   have hpM : p.m = M := by rw [<- hM, <- hY]; rfl
   rw [hY] at hrd
   have hI : (j : Int) < n := by omega
   have hM3 : M <= 1000 := by omega
   have HPZ : Kept (x.k ≠ 1 ∧ x.k ≠ 2 ∧ x.k ≠ 3 ∧ x.k ≠ 4 -> M = 0) := ⟨fun h => by have := hpz h; omega⟩
   have hrl := hrc.row.len
   rw [ccs_len] at hrl
   have hlc : cs.length = M := by omega
   have hlk : x.ks.length = M := by omega
   rw [<- hYA, hpM] at hrc
   have hgl := D.gtL_take (G := G) hxl
   have htot := D.gtL_take_le (G := G) (vs.map (·.1)) (j + 1)
   rw [hgl] at htot
   simp only [D.gtP, List.length_append, hYn] at htot
   obtain ⟨CN, hCN⟩ : ∃ CN, (D.gtC x.k Y.n G x.ws x.ks).length = CN := ⟨_, rfl⟩
   rw [hCN] at htot
   obtain ⟨Lo, hLo⟩ : ∃ Lo, D.insA L (D.gtL G ((vs.map (·.1)).take j)) = Lo := ⟨_, rfl⟩
   have hlo2 := D.insA_len L (D.gtL G ((vs.map (·.1)).take j))
   rw [hLo] at HUj hlo2
   have hFIN : ∀ wf, UsAt wf g (D.insA (D.insA Lo (D.gtO x.k Y.n)) (D.gtC x.k Y.n G x.ws x.ks)) -> UsAt wf g (D.insA L (D.gtL G ((vs.map (·.1)).take (j + 1)))) := fun wf h => by
    rw [hgl, D.insA_app, hLo, D.gtP, D.insA_app, hYn]; exact h
   have HRC := Lib.hid hrc
   have HCW := Kept.mk hcw
   have HSL := Lib.hid hsl
   have HTZ := Lib.hid htz
   have HGK := Lib.hid hgk
   have HCN := Kept.mk hCN
   have HM := Kept.mk hM
   have hlen5 : ¬ wo.heap.size = g := by have := HUj.out.lt; omega
   have hN : Blk (wo.alloc (.cells (nS.v Y) 80)) wo.heap.size 80 (nS.v Y) := Blk.new _ _ _
   obtain ⟨n0, _, n1, n2⟩ := nf_blk hN
   simp only [Nat.zero_add] at n0 n1 n2
   rw [hM] at n2
   have n3 := hN.lt
   have HN1 := Lib.hid hN
   have HUA := Lib.hid (HUj.out.on (below_alloc_ wo (.cells (nS.v Y) 80)))
   have HFA : Hid (Fr (· = g) W (wo.alloc (.cells (nS.v Y) 80))) := Lib.hid (HFj.out.alloc _)
   have hYkk := hYk
   clear hrc hcw hsl htz hgk hCN ht hxl hF0 hY hYn hYA hpM hrl hgl hLo hN hcl hpm hM hpz
   obtain hk1 | hk2 | hk3 | hk4 | hk0 : x.k = 1 ∨ x.k = 2 ∨ x.k = 3 ∨ x.k = 4 ∨ (x.k ≠ 1 ∧ x.k ≠ 2 ∧ x.k ≠ 3 ∧ x.k ≠ 4) := by omega
   ·have i1 : ((Y.k : Int) == 1) = true := by simp; omega
    have i2 : ((Y.k : Int) == 2) = false := by simp; omega
    have i3 : ((Y.k : Int) == 3) = false := by simp; omega
    have i4 : ((Y.k : Int) == 4) = false := by simp; omega
    have hk4' : ¬ x.k = 4 := by omega
    have hgo : D.gtO x.k Y.n = [⟨Y.n, 1, ⟨#[]⟩⟩] := by unfold D.gtO; simp [hk1]
    rw [hgo] at hFIN htot
    simp only [List.length_cons, List.length_nil] at htot
    obtain ⟨w2, hput, hu2, hg2⟩ := HUA.out.put (by omega) ⟨Y.n, 1, ⟨#[]⟩⟩ (uok_0 _ _ (by decide))
    have hput' : (Instr.mapUpdate 66 (.map (some g)) (.agg (uS.v ⟨Y.n, 1, ⟨#[]⟩⟩)) (.agg #[])).run Tryz.prog (wo.alloc (.cells (nS.v Y) 80)) = .ok () w2 := hput
    have f2 := Fr.put hg2
    have b2k : Blk w2 wo.heap.size 80 (nS.v Y) := f2.blk HN1.out hlen5
    have m2 := (nf_blk b2k).c
    simp only [Nat.zero_add] at m2
    rw [HM.out] at m2
    have m3 := b2k.lt
    have HFO := Lib.hid (HFA.out.step f2)
    obtain ⟨L0, hL0⟩ : ∃ L0, D.ins Lo ⟨Y.n, 1, ⟨#[]⟩⟩ = L0 := ⟨_, rfl⟩
    have hl0 := D.ins_len Lo ⟨Y.n, 1, ⟨#[]⟩⟩
    rw [hL0] at hl0 hu2
    have HFIN : Hid (∀ wf, UsAt wf g (D.insA L0 (D.gtC x.k Y.n G x.ws x.ks)) -> UsAt wf g (D.insA L (D.gtL G ((vs.map (·.1)).take (j + 1))))) := Lib.hid fun wf h => hFIN wf (by rw [D.insA, D.insA, hL0]; exact h)
    have hcnl : L0.length + CN <= 1000 := by omega
    have HU2 := Lib.hid hu2
    have HFW2 := Lib.hid (HF.out.step HFO.out)
    have BY : Hid (Blk w2 wo.heap.size 80 (nS.v Y)) := Lib.hid b2k
    have ne5 : ¬ wo.heap.size = g := hlen5
    have hk4 := hk4'
    go_wp2_with fail
    go_loopw [34] (fun s34 wr => ∃ q : Nat, q <= M ∧ s34 = .int .i64 q ∧ Hid (UsAt wr g (D.insA L0 (D.gtC x.k Y.n G (x.ws.take q) (x.ks.take q)))) ∧ Hid (Fr (· = g) w2 wr)) (fun s34 _ => M - (intOf s34).toNat)
    case atStart => exact ⟨0, Nat.zero_le _, rfl, Lib.hid (by simpa [D.gtC, D.insA] using HU2.out), Lib.hid (Fr.refl _ _)⟩
    case round =>
     obtain ⟨q, hq, rfl, HU, HY⟩ := hrel
     obtain ⟨wi, rfl⟩ : ∃ wi : World, wi = wr := ⟨_, rfl⟩
     by_cases hlq : q < M
     ·obtain ⟨⟨t, u⟩, ec⟩ : ∃ y, cs[q]? = some y := ⟨_, List.getElem?_eq_getElem (by omega)⟩
      obtain ⟨k, ek⟩ : ∃ y, x.ks[q]? = some y := ⟨_, List.getElem?_eq_getElem (by omega)⟩
      obtain ⟨x1, x2, x3, rfl⟩ : Isl u := HSL.out _ (List.mem_of_getElem? ec)
      have ew : x.ws[q]? = some t := by rw [<- HCW.out]; simp [ec]
      have HTK := Kept.mk (D.gtC_take (k := x.k) (m := Y.n) (G := G) ew ek)
      have hcnt : (D.gtC x.k Y.n G (x.ws.take (q + 1)) (x.ks.take (q + 1))).length <= CN := by rw [<- HCN.out]; exact D.gtC_take_le _ _ _
      rw [HTK.out] at hcnt
      simp only [List.length_append] at hcnt
      have CG := Lib.hid (HGK.out q t _ k ec ek)
      have htz : Hid ((D.sb t).size <= 1000000) := Lib.hid (by rw [D.sb_len]; have := HTZ.out t (List.mem_of_getElem? ew); omega)
      have htz' : Hid ((D.sb t).size <= 100000) := Lib.hid (by rw [D.sb_len]; have := HTZ.out t (List.mem_of_getElem? ew); omega)
      have hfw : Fr (· = g) w wi := HFW2.out.step HY.out
      obtain ⟨ac, hac, k1, k2, k3⟩ := case_cells ((hfw.rf HRC.out).row) ec
      rw [hac]
      obtain ⟨Lq, hLq⟩ : ∃ Lq, D.insA L0 (D.gtC x.k Y.n G (x.ws.take q) (x.ks.take q)) = Lq := ⟨_, rfl⟩
      have hlq2 := D.insA_len L0 (D.gtC x.k Y.n G (x.ws.take q) (x.ks.take q))
      rw [hLq] at HU hlq2
      have HLQ := Kept.mk hLq
      have hIq : (q : Int) < M := by omega
      obtain ⟨W3, hW3⟩ : ∃ W3, wi.alloc (.cells #[.string (D.sb t), .slice x1 x2 x3] 101) = W3 := ⟨_, rfl⟩
      have b3 : Below wi.heap.size wi W3 := by rw [<- hW3]; exact below_alloc_ _ _
      have B3 := Lib.hid b3
      have HU3 := Lib.hid (HU.out.on b3)
      have HFW3 := Lib.hid (hfw.step (Fr.of_below b3 (Nat.le_refl _)))
      have BX : Hid (Blk W3 wo.heap.size 80 (nS.v Y)) := Lib.hid ((HY.out.blk BY.out ne5).on b3)
      have CX : Hid (Blk W3 wi.heap.size 101 #[.string (D.sb t), .slice x1 x2 x3]) := Lib.hid (by rw [<- hW3]; exact Blk.new _ _ _)
      have ne7 : ¬ wi.heap.size = g := by have := HU.out.lt; omega
      have z0 : (wi.alloc (.cells #[.string (D.sb t), .slice x1 x2 x3] 101)).cell? ⟨wo.heap.size, 0, none⟩ = some (.int .i64 (Y.k : Nat)) := by rw [hW3]; exact nd_c0 BX.out
      have z1 : wo.heap.size < (wi.alloc (.cells #[.string (D.sb t), .slice x1 x2 x3] 101)).heap.size := by rw [hW3]; exact BX.out.lt
      clear hfw ec ek ew hLq b3
      rw [if_neg hk4] at hcnt HTK
      simp only [List.length_nil] at hcnt
      have hbd : Lq.length + (G k).length <= 1000 := by omega
      subst hW3
      have d0 := CX.out.c_ 1
      have d1 := CX.out.lt
      have CG5 := Lib.hid (CG.out _ _ HFW3.out HU3.out (by omega))
      go_wp2_with (go_at_call 16; (with_reducible refine CG5.out.mono ?_); rintro e w6 ⟨rfl, u6, r6⟩; have U6 := Lib.hid u6; have R6 := Lib.hid r6; clear u6 r6)
      go_roundw
      case rel => exact ⟨q + 1, by omega, by go_num, Lib.hid (by rw [HTK.out, D.insA_app, HLQ.out]; simpa [D.insA] using U6.out), Lib.hid ((HY.out.step (Fr.of_below B3.out (Nat.le_refl _))).step R6.out)⟩
      case measure => simp [intOf]; omega
     ·obtain rfl : q = M := by omega
      have e1 : x.ws.take q = x.ws := List.take_of_length_le (by have := congrArg List.length HCW.out; simp at this; omega)
      have e2 : x.ks.take q = x.ks := List.take_of_length_le (by omega)
      rw [e1, e2] at HU
      have HLT := Kept.mk hlt
      go_wp2_with fail
      go_roundw
      case rel => exact ⟨j + 1, HLT.out, by go_num, Lib.hid (HFIN.out _ HU.out), Lib.hid (HFO.out.step HY.out)⟩
      case measure => have := HLT.out; simp [intOf]; omega
   ·have i1 : ((Y.k : Int) == 1) = false := by simp; omega
    have i2 : ((Y.k : Int) == 2) = true := by simp; omega
    have i3 : ((Y.k : Int) == 3) = false := by simp; omega
    have i4 : ((Y.k : Int) == 4) = false := by simp; omega
    have hk4' : ¬ x.k = 4 := by omega
    have hgo : D.gtO x.k Y.n = [⟨Y.n, 2, ⟨#[]⟩⟩] := by unfold D.gtO; simp [hk2]
    rw [hgo] at hFIN htot
    simp only [List.length_cons, List.length_nil] at htot
    obtain ⟨w2, hput, hu2, hg2⟩ := HUA.out.put (by omega) ⟨Y.n, 2, ⟨#[]⟩⟩ (uok_0 _ _ (by decide))
    have hput' : (Instr.mapUpdate 66 (.map (some g)) (.agg (uS.v ⟨Y.n, 2, ⟨#[]⟩⟩)) (.agg #[])).run Tryz.prog (wo.alloc (.cells (nS.v Y) 80)) = .ok () w2 := hput
    have f2 := Fr.put hg2
    have b2k : Blk w2 wo.heap.size 80 (nS.v Y) := f2.blk HN1.out hlen5
    have m2 := (nf_blk b2k).c
    simp only [Nat.zero_add] at m2
    rw [HM.out] at m2
    have m3 := b2k.lt
    have HFO := Lib.hid (HFA.out.step f2)
    obtain ⟨L0, hL0⟩ : ∃ L0, D.ins Lo ⟨Y.n, 2, ⟨#[]⟩⟩ = L0 := ⟨_, rfl⟩
    have hl0 := D.ins_len Lo ⟨Y.n, 2, ⟨#[]⟩⟩
    rw [hL0] at hl0 hu2
    have HFIN : Hid (∀ wf, UsAt wf g (D.insA L0 (D.gtC x.k Y.n G x.ws x.ks)) -> UsAt wf g (D.insA L (D.gtL G ((vs.map (·.1)).take (j + 1))))) := Lib.hid fun wf h => hFIN wf (by rw [D.insA, D.insA, hL0]; exact h)
    have hcnl : L0.length + CN <= 1000 := by omega
    have HU2 := Lib.hid hu2
    have HFW2 := Lib.hid (HF.out.step HFO.out)
    have BY : Hid (Blk w2 wo.heap.size 80 (nS.v Y)) := Lib.hid b2k
    have ne5 : ¬ wo.heap.size = g := hlen5
    have hk4 := hk4'
    go_wp2_with fail
    go_loopw [34] (fun s34 wr => ∃ q : Nat, q <= M ∧ s34 = .int .i64 q ∧ Hid (UsAt wr g (D.insA L0 (D.gtC x.k Y.n G (x.ws.take q) (x.ks.take q)))) ∧ Hid (Fr (· = g) w2 wr)) (fun s34 _ => M - (intOf s34).toNat)
    case atStart => exact ⟨0, Nat.zero_le _, rfl, Lib.hid (by simpa [D.gtC, D.insA] using HU2.out), Lib.hid (Fr.refl _ _)⟩
    case round =>
     obtain ⟨q, hq, rfl, HU, HY⟩ := hrel
     obtain ⟨wi, rfl⟩ : ∃ wi : World, wi = wr := ⟨_, rfl⟩
     by_cases hlq : q < M
     ·obtain ⟨⟨t, u⟩, ec⟩ : ∃ y, cs[q]? = some y := ⟨_, List.getElem?_eq_getElem (by omega)⟩
      obtain ⟨k, ek⟩ : ∃ y, x.ks[q]? = some y := ⟨_, List.getElem?_eq_getElem (by omega)⟩
      obtain ⟨x1, x2, x3, rfl⟩ : Isl u := HSL.out _ (List.mem_of_getElem? ec)
      have ew : x.ws[q]? = some t := by rw [<- HCW.out]; simp [ec]
      have HTK := Kept.mk (D.gtC_take (k := x.k) (m := Y.n) (G := G) ew ek)
      have hcnt : (D.gtC x.k Y.n G (x.ws.take (q + 1)) (x.ks.take (q + 1))).length <= CN := by rw [<- HCN.out]; exact D.gtC_take_le _ _ _
      rw [HTK.out] at hcnt
      simp only [List.length_append] at hcnt
      have CG := Lib.hid (HGK.out q t _ k ec ek)
      have htz : Hid ((D.sb t).size <= 1000000) := Lib.hid (by rw [D.sb_len]; have := HTZ.out t (List.mem_of_getElem? ew); omega)
      have htz' : Hid ((D.sb t).size <= 100000) := Lib.hid (by rw [D.sb_len]; have := HTZ.out t (List.mem_of_getElem? ew); omega)
      have hfw : Fr (· = g) w wi := HFW2.out.step HY.out
      obtain ⟨ac, hac, k1, k2, k3⟩ := case_cells ((hfw.rf HRC.out).row) ec
      rw [hac]
      obtain ⟨Lq, hLq⟩ : ∃ Lq, D.insA L0 (D.gtC x.k Y.n G (x.ws.take q) (x.ks.take q)) = Lq := ⟨_, rfl⟩
      have hlq2 := D.insA_len L0 (D.gtC x.k Y.n G (x.ws.take q) (x.ks.take q))
      rw [hLq] at HU hlq2
      have HLQ := Kept.mk hLq
      have hIq : (q : Int) < M := by omega
      obtain ⟨W3, hW3⟩ : ∃ W3, wi.alloc (.cells #[.string (D.sb t), .slice x1 x2 x3] 101) = W3 := ⟨_, rfl⟩
      have b3 : Below wi.heap.size wi W3 := by rw [<- hW3]; exact below_alloc_ _ _
      have B3 := Lib.hid b3
      have HU3 := Lib.hid (HU.out.on b3)
      have HFW3 := Lib.hid (hfw.step (Fr.of_below b3 (Nat.le_refl _)))
      have BX : Hid (Blk W3 wo.heap.size 80 (nS.v Y)) := Lib.hid ((HY.out.blk BY.out ne5).on b3)
      have CX : Hid (Blk W3 wi.heap.size 101 #[.string (D.sb t), .slice x1 x2 x3]) := Lib.hid (by rw [<- hW3]; exact Blk.new _ _ _)
      have ne7 : ¬ wi.heap.size = g := by have := HU.out.lt; omega
      have z0 : (wi.alloc (.cells #[.string (D.sb t), .slice x1 x2 x3] 101)).cell? ⟨wo.heap.size, 0, none⟩ = some (.int .i64 (Y.k : Nat)) := by rw [hW3]; exact nd_c0 BX.out
      have z1 : wo.heap.size < (wi.alloc (.cells #[.string (D.sb t), .slice x1 x2 x3] 101)).heap.size := by rw [hW3]; exact BX.out.lt
      clear hfw ec ek ew hLq b3
      rw [if_neg hk4] at hcnt HTK
      simp only [List.length_nil] at hcnt
      have hbd : Lq.length + (G k).length <= 1000 := by omega
      subst hW3
      have d0 := CX.out.c_ 1
      have d1 := CX.out.lt
      have CG5 := Lib.hid (CG.out _ _ HFW3.out HU3.out (by omega))
      go_wp2_with (go_at_call 16; (with_reducible refine CG5.out.mono ?_); rintro e w6 ⟨rfl, u6, r6⟩; have U6 := Lib.hid u6; have R6 := Lib.hid r6; clear u6 r6)
      go_roundw
      case rel => exact ⟨q + 1, by omega, by go_num, Lib.hid (by rw [HTK.out, D.insA_app, HLQ.out]; simpa [D.insA] using U6.out), Lib.hid ((HY.out.step (Fr.of_below B3.out (Nat.le_refl _))).step R6.out)⟩
      case measure => simp [intOf]; omega
     ·obtain rfl : q = M := by omega
      have e1 : x.ws.take q = x.ws := List.take_of_length_le (by have := congrArg List.length HCW.out; simp at this; omega)
      have e2 : x.ks.take q = x.ks := List.take_of_length_le (by omega)
      rw [e1, e2] at HU
      have HLT := Kept.mk hlt
      go_wp2_with fail
      go_roundw
      case rel => exact ⟨j + 1, HLT.out, by go_num, Lib.hid (HFIN.out _ HU.out), Lib.hid (HFO.out.step HY.out)⟩
      case measure => have := HLT.out; simp [intOf]; omega
   ·have i1 : ((Y.k : Int) == 1) = false := by simp; omega
    have i2 : ((Y.k : Int) == 2) = false := by simp; omega
    have i3 : ((Y.k : Int) == 3) = true := by simp; omega
    have i4 : ((Y.k : Int) == 4) = false := by simp; omega
    have hk4' : ¬ x.k = 4 := by omega
    have hgo : D.gtO x.k Y.n = [⟨Y.n, 2, ⟨#[]⟩⟩] := by unfold D.gtO; simp [hk3]
    rw [hgo] at hFIN htot
    simp only [List.length_cons, List.length_nil] at htot
    obtain ⟨w2, hput, hu2, hg2⟩ := HUA.out.put (by omega) ⟨Y.n, 2, ⟨#[]⟩⟩ (uok_0 _ _ (by decide))
    have hput' : (Instr.mapUpdate 66 (.map (some g)) (.agg (uS.v ⟨Y.n, 2, ⟨#[]⟩⟩)) (.agg #[])).run Tryz.prog (wo.alloc (.cells (nS.v Y) 80)) = .ok () w2 := hput
    have f2 := Fr.put hg2
    have b2k : Blk w2 wo.heap.size 80 (nS.v Y) := f2.blk HN1.out hlen5
    have m2 := (nf_blk b2k).c
    simp only [Nat.zero_add] at m2
    rw [HM.out] at m2
    have m3 := b2k.lt
    have HFO := Lib.hid (HFA.out.step f2)
    obtain ⟨L0, hL0⟩ : ∃ L0, D.ins Lo ⟨Y.n, 2, ⟨#[]⟩⟩ = L0 := ⟨_, rfl⟩
    have hl0 := D.ins_len Lo ⟨Y.n, 2, ⟨#[]⟩⟩
    rw [hL0] at hl0 hu2
    have HFIN : Hid (∀ wf, UsAt wf g (D.insA L0 (D.gtC x.k Y.n G x.ws x.ks)) -> UsAt wf g (D.insA L (D.gtL G ((vs.map (·.1)).take (j + 1))))) := Lib.hid fun wf h => hFIN wf (by rw [D.insA, D.insA, hL0]; exact h)
    have hcnl : L0.length + CN <= 1000 := by omega
    have HU2 := Lib.hid hu2
    have HFW2 := Lib.hid (HF.out.step HFO.out)
    have BY : Hid (Blk w2 wo.heap.size 80 (nS.v Y)) := Lib.hid b2k
    have ne5 : ¬ wo.heap.size = g := hlen5
    have hk4 := hk4'
    go_wp2_with fail
    go_loopw [34] (fun s34 wr => ∃ q : Nat, q <= M ∧ s34 = .int .i64 q ∧ Hid (UsAt wr g (D.insA L0 (D.gtC x.k Y.n G (x.ws.take q) (x.ks.take q)))) ∧ Hid (Fr (· = g) w2 wr)) (fun s34 _ => M - (intOf s34).toNat)
    case atStart => exact ⟨0, Nat.zero_le _, rfl, Lib.hid (by simpa [D.gtC, D.insA] using HU2.out), Lib.hid (Fr.refl _ _)⟩
    case round =>
     obtain ⟨q, hq, rfl, HU, HY⟩ := hrel
     obtain ⟨wi, rfl⟩ : ∃ wi : World, wi = wr := ⟨_, rfl⟩
     by_cases hlq : q < M
     ·obtain ⟨⟨t, u⟩, ec⟩ : ∃ y, cs[q]? = some y := ⟨_, List.getElem?_eq_getElem (by omega)⟩
      obtain ⟨k, ek⟩ : ∃ y, x.ks[q]? = some y := ⟨_, List.getElem?_eq_getElem (by omega)⟩
      obtain ⟨x1, x2, x3, rfl⟩ : Isl u := HSL.out _ (List.mem_of_getElem? ec)
      have ew : x.ws[q]? = some t := by rw [<- HCW.out]; simp [ec]
      have HTK := Kept.mk (D.gtC_take (k := x.k) (m := Y.n) (G := G) ew ek)
      have hcnt : (D.gtC x.k Y.n G (x.ws.take (q + 1)) (x.ks.take (q + 1))).length <= CN := by rw [<- HCN.out]; exact D.gtC_take_le _ _ _
      rw [HTK.out] at hcnt
      simp only [List.length_append] at hcnt
      have CG := Lib.hid (HGK.out q t _ k ec ek)
      have htz : Hid ((D.sb t).size <= 1000000) := Lib.hid (by rw [D.sb_len]; have := HTZ.out t (List.mem_of_getElem? ew); omega)
      have htz' : Hid ((D.sb t).size <= 100000) := Lib.hid (by rw [D.sb_len]; have := HTZ.out t (List.mem_of_getElem? ew); omega)
      have hfw : Fr (· = g) w wi := HFW2.out.step HY.out
      obtain ⟨ac, hac, k1, k2, k3⟩ := case_cells ((hfw.rf HRC.out).row) ec
      rw [hac]
      obtain ⟨Lq, hLq⟩ : ∃ Lq, D.insA L0 (D.gtC x.k Y.n G (x.ws.take q) (x.ks.take q)) = Lq := ⟨_, rfl⟩
      have hlq2 := D.insA_len L0 (D.gtC x.k Y.n G (x.ws.take q) (x.ks.take q))
      rw [hLq] at HU hlq2
      have HLQ := Kept.mk hLq
      have hIq : (q : Int) < M := by omega
      obtain ⟨W3, hW3⟩ : ∃ W3, wi.alloc (.cells #[.string (D.sb t), .slice x1 x2 x3] 101) = W3 := ⟨_, rfl⟩
      have b3 : Below wi.heap.size wi W3 := by rw [<- hW3]; exact below_alloc_ _ _
      have B3 := Lib.hid b3
      have HU3 := Lib.hid (HU.out.on b3)
      have HFW3 := Lib.hid (hfw.step (Fr.of_below b3 (Nat.le_refl _)))
      have BX : Hid (Blk W3 wo.heap.size 80 (nS.v Y)) := Lib.hid ((HY.out.blk BY.out ne5).on b3)
      have CX : Hid (Blk W3 wi.heap.size 101 #[.string (D.sb t), .slice x1 x2 x3]) := Lib.hid (by rw [<- hW3]; exact Blk.new _ _ _)
      have ne7 : ¬ wi.heap.size = g := by have := HU.out.lt; omega
      have z0 : (wi.alloc (.cells #[.string (D.sb t), .slice x1 x2 x3] 101)).cell? ⟨wo.heap.size, 0, none⟩ = some (.int .i64 (Y.k : Nat)) := by rw [hW3]; exact nd_c0 BX.out
      have z1 : wo.heap.size < (wi.alloc (.cells #[.string (D.sb t), .slice x1 x2 x3] 101)).heap.size := by rw [hW3]; exact BX.out.lt
      clear hfw ec ek ew hLq b3
      rw [if_neg hk4] at hcnt HTK
      simp only [List.length_nil] at hcnt
      have hbd : Lq.length + (G k).length <= 1000 := by omega
      subst hW3
      have d0 := CX.out.c_ 1
      have d1 := CX.out.lt
      have CG5 := Lib.hid (CG.out _ _ HFW3.out HU3.out (by omega))
      go_wp2_with (go_at_call 16; (with_reducible refine CG5.out.mono ?_); rintro e w6 ⟨rfl, u6, r6⟩; have U6 := Lib.hid u6; have R6 := Lib.hid r6; clear u6 r6)
      go_roundw
      case rel => exact ⟨q + 1, by omega, by go_num, Lib.hid (by rw [HTK.out, D.insA_app, HLQ.out]; simpa [D.insA] using U6.out), Lib.hid ((HY.out.step (Fr.of_below B3.out (Nat.le_refl _))).step R6.out)⟩
      case measure => simp [intOf]; omega
     ·obtain rfl : q = M := by omega
      have e1 : x.ws.take q = x.ws := List.take_of_length_le (by have := congrArg List.length HCW.out; simp at this; omega)
      have e2 : x.ks.take q = x.ks := List.take_of_length_le (by omega)
      rw [e1, e2] at HU
      have HLT := Kept.mk hlt
      go_wp2_with fail
      go_roundw
      case rel => exact ⟨j + 1, HLT.out, by go_num, Lib.hid (HFIN.out _ HU.out), Lib.hid (HFO.out.step HY.out)⟩
      case measure => have := HLT.out; simp [intOf]; omega
   ·have i1 : ((Y.k : Int) == 1) = false := by simp; omega
    have i2 : ((Y.k : Int) == 2) = false := by simp; omega
    have i3 : ((Y.k : Int) == 3) = false := by simp; omega
    have i4 : ((Y.k : Int) == 4) = true := by simp; omega
    have hk4 : x.k = 4 := by omega
    have hgo : D.gtO x.k Y.n = [] := by unfold D.gtO; rw [if_neg (by omega), if_neg (by omega)]
    rw [hgo] at hFIN htot
    simp only [List.length_nil] at htot
    have b2k := HN1.out
    have m2 := n2
    have m3 := n3
    have hu2 := HUA.out
    have HFO := HFA
    obtain ⟨L0, hL0⟩ : ∃ L0, Lo = L0 := ⟨_, rfl⟩
    rw [hL0] at hu2
    have hl0 : L0.length <= Lo.length + 0 := by rw [hL0]; omega
    have HFIN : Hid (∀ wf, UsAt wf g (D.insA L0 (D.gtC x.k Y.n G x.ws x.ks)) -> UsAt wf g (D.insA L (D.gtL G ((vs.map (·.1)).take (j + 1))))) := Lib.hid fun wf h => hFIN wf (by rw [D.insA, hL0]; exact h)
    have hcnl : L0.length + CN <= 1000 := by omega
    have HU2 := Lib.hid hu2
    have HFW2 := Lib.hid (HF.out.step HFO.out)
    have BY : Hid (Blk (wo.alloc (.cells (nS.v Y) 80)) wo.heap.size 80 (nS.v Y)) := Lib.hid b2k
    have ne5 : ¬ wo.heap.size = g := hlen5
    have HK4 := Kept.mk hk4
    go_wp2_with fail
    go_loopw [34] (fun s34 wr => ∃ q : Nat, q <= M ∧ s34 = .int .i64 q ∧ Hid (UsAt wr g (D.insA L0 (D.gtC x.k Y.n G (x.ws.take q) (x.ks.take q)))) ∧ Hid (Fr (· = g) (wo.alloc (.cells (nS.v Y) 80)) wr)) (fun s34 _ => M - (intOf s34).toNat)
    case atStart => exact ⟨0, Nat.zero_le _, rfl, Lib.hid (by simpa [D.gtC, D.insA] using HU2.out), Lib.hid (Fr.refl _ _)⟩
    case round =>
     obtain ⟨q, hq, rfl, HU, HY⟩ := hrel
     obtain ⟨wi, rfl⟩ : ∃ wi : World, wi = wr := ⟨_, rfl⟩
     by_cases hlq : q < M
     ·obtain ⟨⟨t, u⟩, ec⟩ : ∃ y, cs[q]? = some y := ⟨_, List.getElem?_eq_getElem (by omega)⟩
      obtain ⟨k, ek⟩ : ∃ y, x.ks[q]? = some y := ⟨_, List.getElem?_eq_getElem (by omega)⟩
      obtain ⟨x1, x2, x3, rfl⟩ : Isl u := HSL.out _ (List.mem_of_getElem? ec)
      have ew : x.ws[q]? = some t := by rw [<- HCW.out]; simp [ec]
      have HTK := Kept.mk (D.gtC_take (k := x.k) (m := Y.n) (G := G) ew ek)
      have hcnt : (D.gtC x.k Y.n G (x.ws.take (q + 1)) (x.ks.take (q + 1))).length <= CN := by rw [<- HCN.out]; exact D.gtC_take_le _ _ _
      rw [HTK.out] at hcnt
      simp only [List.length_append] at hcnt
      have CG := Lib.hid (HGK.out q t _ k ec ek)
      have htz : Hid ((D.sb t).size <= 1000000) := Lib.hid (by rw [D.sb_len]; have := HTZ.out t (List.mem_of_getElem? ew); omega)
      have htz' : Hid ((D.sb t).size <= 100000) := Lib.hid (by rw [D.sb_len]; have := HTZ.out t (List.mem_of_getElem? ew); omega)
      have hfw : Fr (· = g) w wi := HFW2.out.step HY.out
      obtain ⟨ac, hac, k1, k2, k3⟩ := case_cells ((hfw.rf HRC.out).row) ec
      rw [hac]
      obtain ⟨Lq, hLq⟩ : ∃ Lq, D.insA L0 (D.gtC x.k Y.n G (x.ws.take q) (x.ks.take q)) = Lq := ⟨_, rfl⟩
      have hlq2 := D.insA_len L0 (D.gtC x.k Y.n G (x.ws.take q) (x.ks.take q))
      rw [hLq] at HU hlq2
      have HLQ := Kept.mk hLq
      have hIq : (q : Int) < M := by omega
      obtain ⟨W3, hW3⟩ : ∃ W3, wi.alloc (.cells #[.string (D.sb t), .slice x1 x2 x3] 101) = W3 := ⟨_, rfl⟩
      have b3 : Below wi.heap.size wi W3 := by rw [<- hW3]; exact below_alloc_ _ _
      have B3 := Lib.hid b3
      have HU3 := Lib.hid (HU.out.on b3)
      have HFW3 := Lib.hid (hfw.step (Fr.of_below b3 (Nat.le_refl _)))
      have BX : Hid (Blk W3 wo.heap.size 80 (nS.v Y)) := Lib.hid ((HY.out.blk BY.out ne5).on b3)
      have CX : Hid (Blk W3 wi.heap.size 101 #[.string (D.sb t), .slice x1 x2 x3]) := Lib.hid (by rw [<- hW3]; exact Blk.new _ _ _)
      have ne7 : ¬ wi.heap.size = g := by have := HU.out.lt; omega
      have z0 : (wi.alloc (.cells #[.string (D.sb t), .slice x1 x2 x3] 101)).cell? ⟨wo.heap.size, 0, none⟩ = some (.int .i64 (Y.k : Nat)) := by rw [hW3]; exact nd_c0 BX.out
      have z1 : wo.heap.size < (wi.alloc (.cells #[.string (D.sb t), .slice x1 x2 x3] 101)).heap.size := by rw [hW3]; exact BX.out.lt
      clear hfw ec ek ew hLq b3
      rw [if_pos hk4] at hcnt HTK
      simp only [List.length_cons, List.length_nil] at hcnt
      have hbd : Lq.length + (1 + (G k).length) <= 1000 := by omega
      have KW3 := Kept.mk hW3
      clear hW3
      go_upto_region 13 with fail
      rw [KW3.out]
      clear KW3 z0 z1
      refine wp_region_noPanic ?_
      refine wp_region_held_drew (S := fun W' => Fr (· = g) W3 W') (by kernel_rfl) (Fr.of_below ((Below.refl _ _).drew) (Nat.le_refl _)) (fun _ => ?_)
      obtain ⟨wd, hwd⟩ : ∃ wd, W3.drew = wd := ⟨_, rfl⟩
      have bd0 : Below W3.heap.size W3 wd := by rw [<- hwd]; exact (Below.refl _ _).drew
      have HUd := Lib.hid (HU3.out.on bd0)
      have sd : Fr (· = g) W3 wd := Fr.of_below bd0 (Nat.le_refl _)
      rw [hwd]
      clear hwd
      refine takeT 0 (some 41) ?va0 ?hya0 sd ?resta0
      case hya0 => (intro o ho W hW; simp only [gT, gS, gZ, sI] at ho; subst ho; (try dsimp only at hW); go_simp; try rfl)
      try simp only [Act.put, iT, iZ, iS]
      refine takeT 1 (some 42) ?va1 ?hya1 sd ?resta1
      case hya1 => (intro o ho W hW; simp only [gT, gS, gZ, sI] at ho; subst ho; (try dsimp only at hW); have f0 := nf_blk (hW.blk BX.out ne5); have f1 := f0.n; have f2 := (hW.blk BX.out ne5).lt; have f3 := (hW.blk CX.out ne7).c_ 0; have f4 := (hW.blk CX.out ne7).lt; simp only [Nat.zero_add] at f1; clear f0; go_simp; try rfl)
      try simp only [Act.put, iT, iZ, iS]
      refine takeT 2 (some 43) ?va2 ?hya2 sd ?resta2
      case hya2 => (intro o ho W hW; simp only [gT, gS, gZ, sI] at ho; subst ho; (try dsimp only at hW); have f0 := nf_blk (hW.blk BX.out ne5); have f1 := f0.n; have f2 := (hW.blk BX.out ne5).lt; have f3 := (hW.blk CX.out ne7).c_ 0; have f4 := (hW.blk CX.out ne7).lt; simp only [Nat.zero_add] at f1; clear f0; go_simp; try rfl)
      try simp only [Act.put, iT, iZ, iS]
      refine takeT 3 (some 44) ?va3 ?hya3 sd ?resta3
      case hya3 => (intro o ho W hW; simp only [gT, gS, gZ, sI] at ho; subst ho; (try dsimp only at hW); have f0 := nf_blk (hW.blk BX.out ne5); have f1 := f0.n; have f2 := (hW.blk BX.out ne5).lt; have f3 := (hW.blk CX.out ne7).c_ 0; have f4 := (hW.blk CX.out ne7).lt; simp only [Nat.zero_add] at f1; clear f0; go_simp; try rfl)
      try simp only [Act.put, iT, iZ, iS]
      refine takeT 4 (some 45) ?va4 ?hya4 sd ?resta4
      case hya4 => (intro o ho W hW; simp only [gT, gS, gZ, sI] at ho; subst ho; (try dsimp only at hW); have f0 := nf_blk (hW.blk BX.out ne5); have f1 := f0.n; have f2 := (hW.blk BX.out ne5).lt; have f3 := (hW.blk CX.out ne7).c_ 0; have f4 := (hW.blk CX.out ne7).lt; simp only [Nat.zero_add] at f1; clear f0; go_simp; try rfl)
      try simp only [Act.put, iT, iZ, iS]
      refine takeT 7 (some 48) ?va7 ?hya7 sd ?resta7
      case hya7 => (intro o ho W hW; simp only [gT, gS, gZ, sI] at ho; subst ho; (try dsimp only at hW); go_simp; try rfl)
      try simp only [Act.put, iT, iZ, iS]
      refine nextS 5 (by kernel_rfl) (by rfl) (fun o ho K hK => ?_)
      simp only [gT, gS, gZ, sI] at ho; subst ho
      go_simp
      (go_at_call 35; (with_reducible refine (CL.out (D.sb t) wd htz.out).mono ?_); rintro e w4 ⟨rfl, b4⟩)
      have HU4 := Lib.hid (HUd.out.on b4)
      have s4 : Fr (· = g) W3 w4 := sd.step (Fr.of_below b4 (Nat.le_refl _))
      refine hK.out _ _ s4 (fun _ => ?_)
      clear hK K
      try simp only [Act.put, iT, iZ, iS]
      refine takeT 6 (some 47) ?vb6 ?hyb6 s4 ?restb6
      case hyb6 => (intro o ho W hW; simp only [gT, gS, gZ, sI] at ho; subst ho; (try dsimp only at hW); go_simp; try rfl)
      try simp only [Act.put, iT, iZ, iS]
      obtain ⟨w5, hput, hu5, hg5⟩ := HU4.out.put (by omega) ⟨Y.n, 4, D.sb t⟩ (uok_4 _ htz'.out)
      have hput' : (Instr.mapUpdate 66 (.map (some g)) (.agg (uS.v ⟨Y.n, 4, D.sb t⟩)) (.agg #[])).run Tryz.prog w4 = .ok () w5 := hput
      refine nextS 8 (by kernel_rfl) (by rfl) (fun o ho K hK => ?_)
      simp only [gT, gS, gZ, sI] at ho; subst ho
      go_simp
      have s5 : Fr (· = g) W3 w5 := s4.step (Fr.put hg5)
      refine hK.out _ _ s5 (fun _ => ?_)
      clear hK K hput hput'
      try simp only [Act.put, iT, iZ, iS]
      refine wpAnyH_done (by kernel_rfl) ?_ _
      refine NoPanic.normal ?_
      have HU5 := Lib.hid hu5
      have d0 := (s5.blk CX.out ne7).c_ 1
      have d1 := (s5.blk CX.out ne7).lt
      have CG5 := Lib.hid (CG.out w5 _ (HFW3.out.step s5) HU5.out (by have := D.ins_len Lq ⟨Y.n, 4, D.sb t⟩; omega))
      have HS5 := Lib.hid s5
      go_wp2_with (go_at_call 16; (with_reducible refine CG5.out.mono ?_); rintro e w6 ⟨rfl, u6, r6⟩; have U6 := Lib.hid u6; have R6 := Lib.hid r6; clear u6 r6)
      go_roundw
      case rel => exact ⟨q + 1, by omega, by go_num, Lib.hid (by rw [HTK.out, D.insA_app, HLQ.out]; simpa [D.insA] using U6.out), Lib.hid ((HY.out.step (Fr.of_below B3.out (Nat.le_refl _))).step (HS5.out.step R6.out))⟩
      case measure => simp [intOf]; omega
     ·obtain rfl : q = M := by omega
      have e1 : x.ws.take q = x.ws := List.take_of_length_le (by have := congrArg List.length HCW.out; simp at this; omega)
      have e2 : x.ks.take q = x.ks := List.take_of_length_le (by omega)
      rw [e1, e2] at HU
      have HLT := Kept.mk hlt
      go_wp2_with fail
      go_roundw
      case rel => exact ⟨j + 1, HLT.out, by go_num, Lib.hid (HFIN.out _ HU.out), Lib.hid (HFO.out.step HY.out)⟩
      case measure => have := HLT.out; simp [intOf]; omega
   ·have i1 : ((Y.k : Int) == 1) = false := by simp; omega
    have i2 : ((Y.k : Int) == 2) = false := by simp; omega
    have i3 : ((Y.k : Int) == 3) = false := by simp; omega
    have i4 : ((Y.k : Int) == 4) = false := by simp; omega
    have hk4' : ¬ x.k = 4 := by omega
    have hgo : D.gtO x.k Y.n = [] := by unfold D.gtO; rw [if_neg (by omega), if_neg (by omega)]
    rw [hgo] at hFIN htot
    simp only [List.length_nil] at htot
    have b2k := HN1.out
    have m2 := n2
    have m3 := n3
    have hu2 := HUA.out
    have HFO := HFA
    obtain ⟨L0, hL0⟩ : ∃ L0, Lo = L0 := ⟨_, rfl⟩
    rw [hL0] at hu2
    have hl0 : L0.length <= Lo.length + 0 := by rw [hL0]; omega
    have HFIN : Hid (∀ wf, UsAt wf g (D.insA L0 (D.gtC x.k Y.n G x.ws x.ks)) -> UsAt wf g (D.insA L (D.gtL G ((vs.map (·.1)).take (j + 1))))) := Lib.hid fun wf h => hFIN wf (by rw [D.insA, hL0]; exact h)
    have hcnl : L0.length + CN <= 1000 := by omega
    have HU2 := Lib.hid hu2
    have HFW2 := Lib.hid (HF.out.step HFO.out)
    have BY : Hid (Blk (wo.alloc (.cells (nS.v Y) 80)) wo.heap.size 80 (nS.v Y)) := Lib.hid b2k
    have ne5 : ¬ wo.heap.size = g := hlen5
    have HM0 : Kept (M = 0) := ⟨HPZ.out hk0⟩
    have hk4 := hk4'
    go_wp2_with fail
    go_loopw [34] (fun s34 wr => ∃ q : Nat, q <= M ∧ s34 = .int .i64 q ∧ Hid (UsAt wr g (D.insA L0 (D.gtC x.k Y.n G (x.ws.take q) (x.ks.take q)))) ∧ Hid (Fr (· = g) (wo.alloc (.cells (nS.v Y) 80)) wr)) (fun s34 _ => M - (intOf s34).toNat)
    case atStart => exact ⟨0, Nat.zero_le _, rfl, Lib.hid (by simpa [D.gtC, D.insA] using HU2.out), Lib.hid (Fr.refl _ _)⟩
    case round =>
     obtain ⟨q, hq, rfl, HU, HY⟩ := hrel
     obtain ⟨wi, rfl⟩ : ∃ wi : World, wi = wr := ⟨_, rfl⟩
     by_cases hlq : q < M
     ·exact absurd hlq (by have := HM0.out; omega)
     ·obtain rfl : q = M := by omega
      have e1 : x.ws.take q = x.ws := List.take_of_length_le (by have := congrArg List.length HCW.out; simp at this; omega)
      have e2 : x.ks.take q = x.ks := List.take_of_length_le (by omega)
      rw [e1, e2] at HU
      have HLT := Kept.mk hlt
      go_wp2_with fail
      go_roundw
      case rel => exact ⟨j + 1, HLT.out, by go_num, Lib.hid (HFIN.out _ HU.out), Lib.hid (HFO.out.step HY.out)⟩
      case measure => have := HLT.out; simp [intOf]; omega
  ·obtain rfl : j = n := by omega
   have e1 : (vs.map (·.1)).take j = vs.map (·.1) := List.take_of_length_le (by simp; omega)
   rw [e1] at HUj
   clear e1
   go_wp2
   go_end0
   exact ⟨rfl, HUj.out, HFj.out⟩
end Go.Proofs.YtgnjjlgmlokhmaaGreatDoor
namespace Go.Proofs.YtgnjjlgmlokhmaaGreatDoor
open Go.RowKit

theorem gap_of {g r : Nat} {w : World} {v ch : Bool} {x : D.Nd} {p : D.Sl} {G : List D.Nd -> List D.Uv} (ho : D.okNd ch (D.Rk r) v x) (hx : Pel (Pk (fun i => i ≠ g) w r) (fun i => i ≠ g) w x p) (hz : (D.prN x).length <= 1000)
  (hK : ∀ u q a, q ∈ x.ks -> Pk (fun i => i ≠ g) w r u q -> D.Rk r a q -> (D.prL q).length <= 1000 -> GaC g u w (G q)) : Gap g w G x p := by
 obtain ⟨hbt, hcap, cs, hrc, hcw, _, hcl, hkk⟩ := hx
 have hk := D.kids_le_ ho hz
 have hl := hrc.row.len
 rw [ccs_len] at hl
 refine ⟨by omega, fun hk4 => ?_, cs, hrc, hcw, pel_slices hcl hkk, hcl, fun t ht => ?_, fun q t u k hc hq => ?_⟩
 ·rcases ho with ⟨_, _, _, h, _⟩ | ⟨h, _⟩ | ⟨h, _⟩ | ⟨h, _⟩
  ·rw [h] at hcl; simp at hcl; subst hcl; simp at hl; omega
  ·rw [h] at hcl; simp [D.Nd.ks] at hcl; subst hcl; simp at hl; omega
  ·omega
  ·omega
 ·rcases ho with ⟨_, _, h, _⟩ | ⟨h, _⟩ | ⟨_, _, h, _⟩ | ⟨hk', _, _, _, hll, _⟩
  ·rw [h] at ht; cases ht
  ·rw [h] at ht; cases ht
  ·rw [h] at ht; cases ht
  ·have h1 := D.prC_word hll ht
   have h2 := D.prN_cas hk'
   omega
 ·obtain ⟨a, ha⟩ := D.kid_rk ho (List.mem_of_getElem? hq)
  refine hK u k a (List.mem_of_getElem? hq) (hkk q t u k hc hq) ha ?_
  rcases ho with ⟨_, _, _, h, _⟩ | ⟨h, _⟩ | ⟨_, _, _, h, _⟩ | ⟨hk', _, _, _, hll, _⟩
  ·rw [h] at hq; simp at hq
  ·rw [h] at hq; simp [D.Nd.ks] at hq
  ·rw [h] at hq; simp at hq
  ·have h1 := D.prC_at hll hq
   have h2 := D.prN_cas hk'
   omega
theorem gather_lst {g r : Nat} {w : World} {v : Bool} {u : Value} {l : List D.Nd} {G : List D.Nd -> List D.Uv} (hCl : ∀ (s : ByteArray) (W : World), s.size <= 1000000 -> Calls Tryz.prog 35 #[.string s] W fun e w' => e = .returned (.string s) ∧ Below W.heap.size W w')
  (hP : Pm (fun i => i ≠ g) w r u l) (hR : D.Rt r v l) (hz : (D.prL l).length <= 1000) (hK : ∀ u q a, Pk (fun i => i ≠ g) w r u q -> D.Rk r a q -> (D.prL q).length <= 1000 -> GaC g u w (G q)) : GaC g u w (D.gtL G l) := by
 obtain ⟨A, n, c, vs, rfl, hc, hr, hl, hb⟩ := (Pm_eq _ w r _ _).1 hP
 obtain ⟨ch, ho⟩ := D.rt_ok hR
 have hn : n <= 1000 := by
  have h1 := hr.row.len
  rw [Shp.rcs_len, nvs_len, show nS.n = 15 from rfl] at h1
  have h2 := D.len_le ho
  have h3 : l.length = vs.length := by rw [<- hl]; simp
  omega
 rw [<- hl]
 refine gather_row g n c A vs w G hr hn (fun j x p hj => ?_) hCl
 have hx := vs_list hl hj
 have h1 := D.prL_mem (List.mem_of_getElem? hx)
 exact gap_of (D.okLs_at ho hx).1 (hb j x p hj) (by omega) fun u q a _ k1 k2 k3 => hK u q a k1 k2 k3
theorem gather_any {g : Nat} {w : World} (hCl : ∀ (s : ByteArray) (W : World), s.size <= 1000000 -> Calls Tryz.prog 35 #[.string s] W fun e w' => e = .returned (.string s) ∧ Below W.heap.size W w') :
  ∀ (r : Nat) {v : Bool} {u : Value} {l : List D.Nd}, Pm (fun i => i ≠ g) w r u l -> D.Rt r v l -> (D.prL l).length <= 1000 -> GaC g u w (D.gth r l)
 | 0, v, u, l, hP, hR, hz => gather_lst hCl hP hR hz fun u q a k _ _ => k.elim
 | r + 1, v, u, l, hP, hR, hz => gather_lst hCl hP hR hz fun u q a k k2 k3 => gather_any hCl r (show Pm _ w r u q from k) k2 k3
namespace D
theorem gtC_len {k : Nat} {m : Nm.D.Nm} {G : List Nd -> List Uv} : ∀ {ws : List (List Nat)} {ks : List (List Nd)}, (∀ q ∈ ks, (G q).length <= (prL q).length) -> (gtC k m G ws ks).length <= (prC ws ks).length
 | [], ks, _ => by simp [gtC]
 | _ :: _, [], _ => by simp [gtC]
 | w :: ws, q :: ks, h => by
  have h1 := gtC_len (k := k) (m := m) (ws := ws) (ks := ks) fun q hq => h q (by simp [hq])
  have h2 := h q (by simp)
  simp only [gtC, List.length_append, prC, List.length_cons]
  split <;> simp <;> omega
theorem gtP_len {ch v : Bool} {kids : Bool -> List Nd -> Prop} {x : Nd} {G : List Nd -> List Uv} (ho : okNd ch kids v x) (h : ∀ q ∈ x.ks, (G q).length <= (prL q).length) : (gtP G x).length <= (prN x).length := by
 obtain ⟨k, t, n, ws, ks⟩ := x
 have h1 : (gtC k (pnm (.mk k t n ws ks)) G ws ks).length <= (prC ws ks).length := gtC_len h
 rcases ho with ⟨e, _, e2, e3, _⟩ | ⟨e, _⟩ | ⟨e, _, e2, e3, _⟩ | ⟨e, _⟩
 ·simp only [Nd.k, Nd.ws, Nd.ks] at e e2 e3
  subst e e2 e3
  simp [gtP, gtO, gtC, Nd.k, Nd.ws, Nd.ks]
 ·injection e with e1 e2 e3 e4 e5
  subst e1 e4 e5
  simp [gtP, gtO, gtC, Nd.k, Nd.ws, Nd.ks]
 ·simp only [Nd.k, Nd.ws, Nd.ks] at e e2 e3
  subst e2 e3
  rcases e with rfl | rfl <;> simp [gtP, gtO, gtC, Nd.k, Nd.ws, Nd.ks, prN]
 ·simp only [Nd.k] at e
  simp only [gtP, gtO, Nd.k, Nd.ws, Nd.ks, List.length_append]
  rcases e with rfl | rfl
  ·simp [prN]; omega
  ·simp [prN]; omega
theorem gtL_len {ch v : Bool} {kids : Bool -> List Nd -> Prop} {G : List Nd -> List Uv} : ∀ {pt : Bool} {l : List Nd}, okLs (okNd ch kids v) pt l -> (∀ x ∈ l, ∀ q ∈ x.ks, (G q).length <= (prL q).length) -> (gtL G l).length <= (prL l).length
 | _, [], _, _ => by simp [gtL]
 | _, x :: l, ho, h => by
  have h1 := gtL_len (G := G) ho.2.2 fun y hy => h y (by simp [hy])
  have h2 := gtP_len ho.1 (h x (by simp))
  simp only [gtL, prL, List.length_append]; omega
theorem gth_len : ∀ (r : Nat) {v : Bool} {l : List Nd}, Rt r v l -> (gth r l).length <= (prL l).length
 | 0, v, l, h => gtL_len (pt := false) (ch := false) (v := v) (kids := fun _ _ => False) h fun x _ q _ => by simp
 | r + 1, v, l, h => by
  refine gtL_len (pt := false) (ch := true) (v := v) (kids := Rt r) h fun x hx q hq => ?_
  rcases okLs_mem h x hx with ⟨_, _, _, e, _⟩ | ⟨e, _⟩ | ⟨_, _, _, e, _⟩ | ⟨_, _, _, _, _, _, _, e⟩
  ·rw [e] at hq; cases hq
  ·rw [e] at hq; cases hq
  ·rw [e] at hq; cases hq
  ·exact gth_len r (e q hq)
end D
end Go.Proofs.YtgnjjlgmlokhmaaGreatDoor
