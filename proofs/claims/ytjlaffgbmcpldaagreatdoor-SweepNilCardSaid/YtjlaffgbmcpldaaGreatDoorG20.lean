/-
  
-/
import Derived.Test.YtjlaffgbmcpldaaGreatDoorG19
import Derived.RangeFuncNested
import Derived.RangeFuncBound
import Derived.RangeFuncCalls
import Derived.RangeFuncLeaves
import Derived.RangeFuncBox
import Derived.RangeFuncStops
import Derived.Shelf.Abstract
import Derived.Shelf.RegionOpen
import Derived.WalkKit
import Derived.OwnWalkIn
import Derived.TacticsInMore
import Derived.LoopNIn
import Derived.LoopIn
import Derived.Test.YtjlaffgbmcpldaaGreatDoorG08
import Derived.OrdersIn
import Derived.TacticsIn
set_option linter.unusedVariables false
set_option linter.unusedSimpArgs false
set_option maxRecDepth 100000
namespace Go.Proofs.YtjlaffgbmcpldaaGreatDoor
open Go.RowKit Go.Shelf
attribute [local go_sem] Oper.semAt_some
attribute [local go_sem ↓] Go.wp_at_zero Go.wp_at_succ ld_k lv_k st_k eq_k ne_k bd_k ld_b lv_b st_b eq_b ne_b bd_25 ld_r lv_r st_rk eq_rk ne_rk bd_r ld_p lv_p st_px bd_p Nm.ld_a Nm.ld_n Nm.st_a Nm.st_n Nm.eq_a Nm.eq_n Nm.ne_a Nm.ne_n Nm.lv_a Nm.lv_n ld_a ld_n st_a st_n eq_a eq_n ne_a ne_n lv_a lv_n ld_l lv_l st_l bd_l bd_n bs_k
attribute [local go_sem] run_ldk run_lvk run_stk run_eqk run_nek run_bdk_z run_ldb run_lvb run_stb run_eqb run_neb run_ldr run_lvr run_strk run_eqrk run_nerk run_bdr_z run_ldp run_lvp run_stpx Nm.run_ld_a Nm.run_ld_n Nm.run_st_n Nm.run_eq_a Nm.run_eq_n Nm.run_ne_a Nm.run_ne_n Nm.run_lv_a Nm.run_lv_n Nm.rd_new Nm.rd_old Nm.rd_drew Nm.rd_drewN run_ld_a run_ld_n run_sw_a run_sw_n run_eq_a run_eq_n run_ne_a run_ne_n run_lv_a run_lv_n st_z ne_z eq_z rd_new rd_old rd_drew rd_drewN Shp.rd_new Shp.rd_old Shp.rd_drew Shp.rd_drewN Shp.rd_set Shp.tn_new Shp.tn_old Shp.tn_drew Shp.tn_drewN tn_new tn_old tn_drew tn_drewN rd_set setRow_alloc run_stn3 run_stt15 run_lvl run_ldl run_stl run_bdl run_bdn run_bdn0 run_bsk Shp.rd_extk cell_ext
def pth (k : D.Ky) (d : Nat) : Option Tk → List Tk
 | none => []
 | some t => t.path k d
structure Kp (n0 : Nat) (X : List Nat) (W W' : World) : Prop where
 sz : W.heap.size ≤ W'.heap.size
 old : ∀ g : Nat, g < n0 → g ∉ X → W'.heap[g]? = W.heap[g]?
 arr : ∀ (g : Nat) (cs : Array Value), W.heap[g]? = some (Obj.cells cs 201 (0, 0)) → W'.heap[g]? = W.heap[g]?
theorem Kp.trans {n0 : Nat} {X : List Nat} {A B C : World} (h : Kp n0 X A B) (k : Kp n0 X B C) : Kp n0 X A C :=
 ⟨Nat.le_trans h.sz k.sz, fun g h1 h2 => (k.old g h1 h2).trans (h.old g h1 h2), fun g cs hg => by
  have e := h.arr g cs hg
  exact (k.arr g cs (e.trans hg)).trans e⟩
theorem Kp.refl (n0 : Nat) (X : List Nat) (W : World) : Kp n0 X W W := ⟨Nat.le_refl _, fun _ _ _ => rfl, fun _ _ _ => rfl⟩
theorem Kp.put {n0 : Nat} {X : List Nat} (W : World) (l : Nat) (o o' : Obj) (hl : n0 ≤ l) (h : W.heap[l]? = some o) (ho : o.isCells = false) : Kp n0 X W (W.putObj l o') :=
 ⟨by simp [World.putObj], fun g hg _ => World.putObj_heap_other (by omega), fun g cs hg => World.putObj_heap_other (fun e => by subst e; rw [hg] at h; injection h with h; subst h; cases ho)⟩
theorem Kp.below {n0 : Nat} {X : List Nat} {W W' : World} (hb : Below W.heap.size W W') (hn : n0 ≤ W.heap.size) : Kp n0 X W W' :=
 ⟨hb.size, fun g hg _ => hb.block g (by omega), fun g cs hg => hb.block g (Array.getElem?_eq_some_iff.1 hg).1⟩
theorem Kp.set {n0 : Nat} {X : List Nat} (W : World) (g : Nat) (o : Nat) (v : Value) (hx : g ∈ X) {t : TypeId} {cs : Array Value} (hB : Blk W g t cs) (ht : t ≠ 201) : Kp n0 X W (W.setCell ⟨g, o, none⟩ v) :=
 ⟨by simp [World.setCell], fun q _ hq => Below.heap_setCell W ⟨g, o, none⟩ v q (fun e => hq (by subst e; exact hx)), fun q cs' hq => Below.heap_setCell W ⟨g, o, none⟩ v q (fun e => by
  subst e
  have := hq.symm.trans hB.out
  injection this with this
  injection this with _ e2
  exact ht e2.symm)⟩
theorem Kp.cell {n0 : Nat} {X : List Nat} {W W' : World} (h : Kp n0 X W W') {a : Addr} (h1 : a.block < n0) (h2 : a.block ∉ X) : W'.cell? a = W.cell? a := World.cell?_of_block (h.old _ h1 h2)
theorem grown_none {W W' : World} (h : Below W.heap.size W W') : W.grownBy W' none := ⟨h.os, h.tape, h.output, h.size, fun k hk _ => h.block k hk⟩
noncomputable def msr (wr : World) (p : Value) : Nat := match p with
 | .pointer (some a) => match wr.cell? a with
  | some (.int _ b) => 202 - b.toNat
  | _ => 0
 | _ => 0
theorem msr_node {wr : World} {t : Tk} (h : Nd wr t) (hw : t.wf) : msr wr (.pointer (some ⟨t.ad, 0, none⟩)) = 202 - t.bit := by
 have := h.nf.bit
 simp [msr, this]
def kid (t : Tk) (c : Bool) : Option Tk := match t with
 | .lf _ _ _ => none
 | .br _ _ l r => some (if c then r else l)
theorem path_kid {k : D.Ky} {d : Nat} (hd : d ≤ 200) {t : Tk} (h : t.bit < d) {c : Bool} (hc : Cr.Bits.bt k t.bit = c) : t.path k d = t :: pth k d (kid t c) := by
 cases t with
 | lf a x v => simp only [Cr.Tr.bit] at h; omega
 | br a b l r =>
  have hc : Cr.Bits.bt k b = c := hc
  have h : b < d := h
  cases c
  ·simp only [Cr.Tr.path, if_pos h, hc, kid, pth, Bool.false_eq_true, if_false]
  ·simp only [Cr.Tr.path, if_pos h, hc, kid, pth, if_true]
theorem path_out {k : D.Ky} {d : Nat} : ∀ {t : Tk}, ¬ t.bit < d → t.path k d = []
 | .lf _ _ _, _ => rfl
 | .br a b l r, h => by
  simp only [Cr.Tr.bit] at h
  simp only [Cr.Tr.path, if_neg h]
theorem kid_cell {w : World} {t : Tk} (h : Nd w t) {k : D.Ky} (hb : t.bit < 200) {c : Bool} (hc : Cr.Bits.bt k t.bit = c) : w.cell? ⟨t.ad, 1 + D.sd k t.bit, none⟩ = some (.pointer (pt (kid t c))) := by
 have hn := h.nf
 have e1 := hn.lo
 have e2 := hn.hi
 unfold D.sd
 rw [hc]
 cases t with
 | lf a x v => simp only [Cr.Tr.bit] at hb; omega
 | br a b l r =>
  cases c
  ·exact e1
  ·exact e2
theorem kid_ok {w : World} {t : Tk} {c : Bool} {u : Tk} (h : Nd w t) (hw : t.wf) (hu : kid t c = some u) : Nd w u ∧ u.wf ∧ t.bit < u.bit ∧ ∀ g ∈ u.bl, g ∈ t.bl := by
 cases t with
 | lf a x v => cases hu
 | br a b l r =>
  simp only [kid, Option.some.injEq] at hu
  have hk := Cr.Tr.kids hw
  subst hu
  cases c
  ·exact ⟨h.2.1, hw.2.2.2.2.1, hk.1, fun g hg => by simp [Cr.Tr.bl]; exact .inr (.inl hg)⟩
  ·exact ⟨h.2.2, hw.2.2.2.2.2, hk.2, fun g hg => by simp [Cr.Tr.bl]; exact .inr (.inr hg)⟩
structure Dn (n0 : Nat) (X : List Nat) (W : World) (cur : Option Tk) : Prop where
 ok : ∀ t, cur = some t → Nd W t ∧ t.wf ∧ ∀ g ∈ t.bl, g < n0 ∧ g ∉ X
theorem Dn.kept {n0 : Nat} {X : List Nat} {W W' : World} {c : Option Tk} (h : Dn n0 X W c) (hk : Kp n0 X W W') : Dn n0 X W' c :=
 ⟨fun t e => let ⟨h1, h2, h3⟩ := h.ok t e; ⟨h1.kept fun g hg => hk.old g (h3 g hg).1 (h3 g hg).2, h2, h3⟩⟩
theorem Dn.on {n0 : Nat} {X : List Nat} {W W' : World} {c : Option Tk} (h : Dn n0 X W c) (hb : Below W.heap.size W W') : Dn n0 X W' c :=
 ⟨fun t e => let ⟨h1, h2, h3⟩ := h.ok t e; ⟨h1.on hb, h2, h3⟩⟩
theorem Dn.next {n0 : Nat} {X : List Nat} {W : World} {t : Tk} (h : Dn n0 X W (some t)) (c : Bool) : Dn n0 X W (kid t c) :=
 ⟨fun u e => let ⟨h1, h2, h3⟩ := h.ok t rfl; let ⟨k1, k2, _, k4⟩ := kid_ok h1 h2 e; ⟨k1, k2, fun g hg => h3 g (k4 g hg)⟩⟩
set_option maxHeartbeats 4000000 in
theorem psd_in (n : Nat) (hn : 4 ≤ n) (l Bk Bt Bb g : Nat) (k : D.Ky) (d : Nat) (hd : d ≤ 200) (o : Option Tk) (n0 : Nat) (X : List Nat) (J Jx : List { t : Tk // t ∈ pth k d o } → World → Prop)
  (W : World) (hk : kS.rd W ⟨Bk, 0, none⟩ = some k) (ht : W.cell? ⟨Bt, 0, none⟩ = some (.pointer (some ⟨g, 0, none⟩))) (hb : W.cell? ⟨Bb, 0, none⟩ = some (.int .i64 (d : Nat))) (hT : TR W g o) (hXb : Bb < n0 ∧ Bb ∉ X) (hXn : Dn n0 X W o) (h0n : n0 ≤ W.heap.size)
  (hA : AbidesFrom W.heap.size J)
  (hY : ∀ pre (y : { t : Tk // t ∈ pth k d o }) W1, J pre W1 → pre.length < (pth k d o).length → YieldAt Fence.wide (n - 1) Tryz.prog l #[.pointer (some ⟨y.1.ad, 0, none⟩)] W1 fun e W' =>
   (e = .returned (.bool true) ∧ J (pre ++ [y]) W' ∧ Kp n0 X W1 W') ∨ (e = .returned (.bool false) ∧ Jx (pre ++ [y]) W'))
  (h0 : J [] W) :
  CallsIn Fence.wide n Tryz.prog 165 #[.func (.yield l) #[] #[], .pointer (some ⟨Bk, 0, none⟩), .pointer (some ⟨Bt, 0, none⟩), .pointer (some ⟨Bb, 0, none⟩)] W fun e W' => (∃ v, e = .returned v) ∧
   ((∃ ys : List { t : Tk // t ∈ pth k d o }, ys.map (·.1) = pth k d o ∧ J ys W') ∨ (∃ pre, Jx pre W')) := by
 have CB := Lib.hid (fun w => kbytes_any k w)
 have CT := Lib.hid (fun w => top_any g w)
 have HY := Lib.hid hY
 have HA := Lib.hid hA
 have hroot := hT.root
 have lk := Shp.rd_lt hk
 have lt1 := World.block_lt_of_cell? W _ ht
 have lb := World.block_lt_of_cell? W _ hb
 have lg := hT.lt
 clear hY hA hT
 have hn1 : 1 ≤ n - 1 := by omega
 refine callsIn_of_wp Tryz.func165 rfl trivial ?_ rfl
 simp only [Tryz.ntmps165, List.size_toArray, List.length_cons, List.length_nil, Nat.reduceAdd, Nat.reduceSub, Array.replicate_succ, Array.replicate_zero, List.push_toArray, List.append_toArray, List.nil_append, List.cons_append]
 gi_wp2
 refine ⟨trivial, fun _ => by omega, ?_⟩
 refine (callsIn_wide.2 (CB.out _)).mono ?_
 rintro e w1 ⟨rfl, b1⟩
 have bF := b1.alloc b1.size (.cells (kS.v k) 201)
 have c2 := cell_kept_ bF ht
 have c3 := cell_kept_ bF hroot
 gi_wp2
 refine ⟨trivial, fun _ => by omega, ?_⟩
 refine (callsIn_wide.2 (CT.out _)).mono ?_
 rintro e w2 ⟨rfl, rfl⟩
 gi_wp2
 have hkb := Blk.new w1 201 (kS.v k)
 have hbb := cell_kept_ bF hb
 have hDn := hXn.on bF
 have hJ0 := HA.out [] W _ none h0 (grown_none bF) (fun r e => by cases e)
 obtain ⟨gb, hgb⟩ : ∃ gb, w1.heap.size = gb := ⟨_, rfl⟩
 obtain ⟨Wf, hWf⟩ : ∃ Wf, w1.alloc (.cells (kS.v k) 201) = Wf := ⟨_, rfl⟩
 rw [hgb] at hkb
 rw [hWf] at hkb hbb hDn hJ0 bF
 try rw [hgb]
 try rw [hWf]
 have hle : W.heap.size ≤ Wf.heap.size := bF.size
 clear hgb hWf c2 c3 b1 hroot hb ht hk hXn h0 CB CT lk lt1
 gi_loopw [6] (fun s wr => ∃ (cur : Option Tk) (pre : List { t : Tk // t ∈ pth k d o }), s = .pointer (pt cur) ∧ Kept (pre.map (·.1) ++ pth k d cur = pth k d o) ∧ Dn n0 X wr cur ∧ wr.cell? ⟨Bb, 0, none⟩ = some (.int .i64 (d : Nat)) ∧ Blk wr gb 201 (kS.v k) ∧ W.heap.size ≤ wr.heap.size ∧ J pre wr) (fun s wr => msr wr s)
 case atStart => exact ⟨o, [], rfl, ⟨rfl⟩, hDn, hbb, hkb, hle, hJ0⟩
 case round =>
  clear hDn hbb hkb hle hJ0
  obtain ⟨cur, pre, rfl, HP, HD, hbb, hkb, hle, hJ⟩ := hrel
  have HE : Kept (pth k d cur = [] → pre.map (·.1) = pth k d o) := ⟨fun e => by have := HP.out; rwa [e, List.append_nil] at this⟩
  have HJ := Lib.hid (fun q => HA.out pre wr (wr.drewN q) none hJ (grown_none ⟨rfl, rfl, rfl, Nat.le_refl _, fun _ _ => rfl⟩) (fun r e => by cases e))
  cases cur with
  | none =>
   have hp := HE.out rfl
   have hpt : pt none = none := rfl
   rw [hpt]
   clear HE HP HD hJ hbb hkb
   gi_wp2
   refine wpIn_wide.2 ?_
   go_quiet (fail)
   gi_wp2
   go_end0
   exact ⟨⟨_, rfl⟩, .inl ⟨pre, hp, HJ.out _⟩⟩
  | some t =>
   obtain ⟨hN, hw, hbl⟩ := HD.ok t rfl
   have hpt : pt (some t) = some ⟨t.ad, 0, none⟩ := rfl
   rw [hpt]
   have hf0 := hN.nf.bit
   by_cases hlt : t.bit < d
   ·have hdc : decide ((t.bit : Int) < (d : Int)) = true := decide_eq_true (by omega)
    obtain ⟨c, hc⟩ : ∃ c, Cr.Bits.bt k t.bit = c := ⟨_, rfl⟩
    have hpk := path_kid hd hlt hc
    have hmix : Tryz.prog.follows .mixedOrders = true := by kernel_rfl
    have HJd := HA.out pre wr wr.drew none hJ (grown_none ⟨rfl, rfl, rfl, Nat.le_refl _, fun _ _ => rfl⟩) (fun r e => by cases e)
    have hpk2 : pth k d (some t) = t :: pth k d (kid t c) := hpk
    have hlen : pre.length < (pth k d o).length := by
     have := congrArg List.length HP.out
     rw [hpk2, List.length_append, List.length_map, List.length_cons] at this
     omega
    have hmem : t ∈ pth k d o := by rw [← HP.out, hpk2]; exact List.mem_append_right _ (List.mem_cons_self ..)
    obtain ⟨fn, tmps, assign, body, hy, hR⟩ := HY.out pre ⟨t, hmem⟩ wr.drew HJd hlen
    have hR2 := Lib.hid (RoundIn.mono hR fun e W' hh => show ∃ bb : Bool, e = .returned (.bool bb) ∧ (if bb = true then J (pre ++ [⟨t, hmem⟩]) W' ∧ Kp n0 X wr.drew W' else Jx (pre ++ [⟨t, hmem⟩]) W') from by
     rcases hh with ⟨h1, h2⟩ | ⟨h1, h2⟩
     ·exact ⟨true, h1, by rw [if_pos rfl]; exact h2⟩
     ·exact ⟨false, h1, by rw [if_neg (by decide)]; exact h2⟩)
    have HPK := Lib.hid hpk2
    have HN := Lib.hid hN
    have HDk := Lib.hid (HD.next c)
    clear hpk hpk2 hlen HJd HE HJ hJ HD hR hN
    gi_wp2
    gi_region_with_o (refine ⟨fun _ => by omega, hR2.out.mono ?_⟩; rintro e W3 ⟨bb, rfl, hG⟩; have HG := Lib.hid hG; clear hG)
    all_goals
     try simp only [Act.put, List.getElem_toArray, List.getElem_cons_succ, List.getElem_cons_zero, List.setIfInBounds_toArray, List.set_cons_zero, List.set_cons_succ]
     have hG := HG.out
     clear HG
     cases bb with
     | false =>
      rw [if_neg (by decide)] at hG
      gi_wp2
      go_end0
      exact ⟨⟨_, rfl⟩, .inr ⟨_, hG⟩⟩
     | true =>
      rw [if_pos rfl] at hG
      obtain ⟨hJ3, hk3⟩ := hG
      have HJ3 := Lib.hid hJ3
      have hN3 : Nd W3 t := HN.out.kept fun g hg => hk3.old g (hbl g hg).1 (hbl g hg).2
      have hD3 := Lib.hid ((HDk.out).kept (W' := W3) ⟨hk3.sz, hk3.old, hk3.arr⟩)
      have hb3 := (hk3.cell (a := ⟨Bb, 0, none⟩) hXb.1 hXb.2).trans hbb
      have hB3 : Blk W3 gb 201 (kS.v k) := ⟨(hk3.arr gb _ hkb.out).trans hkb.out⟩
      have hz3 : W.heap.size ≤ W3.heap.size := Nat.le_trans hle hk3.sz
      have r3 := Shp.rd_blk (S := kS) hB3
      have c0 := hN3.nf.bit
      have lt3 := hN3.nf.lt
      have lg3 := hB3.lt
      have c1 := kid_cell hN3 (by omega) hc
      have CS := Lib.hid (fun w => side_any k t.bit (by omega) w)
      have s0 := D.sd_le k t.bit
      obtain ⟨sd, hsd⟩ : ∃ sd, D.sd k t.bit = sd := ⟨_, rfl⟩
      rw [hsd] at c1 CS s0
      have s1 : (0 : Int) ≤ (sd : Int) := by omega
      have s2 : (sd : Int) < 2 := by omega
      have hmes : Kept (msr wr (.pointer (some ⟨t.ad, 0, none⟩)) = 202 - t.bit) := ⟨msr_node HN.out hw⟩
      have HN3 := Lib.hid hN3
      have HB3 := Lib.hid hB3
      clear hJ3 hk3 hbb hkb hf0 hy hR2 hN3 hsd hB3
      gi_wp2
      refine wpIn_wide.2 ?_
      refine wp_region_ext (by kernel_rfl) (by kernel_rfl) ?_
      repeat (go_big_quiet_step ((go_at_call 132; with_reducible exact calls_ext (CS.out _))))
      refine wpQuiet_nil ?_
      intro w4 hw4
      have b4 := ext_to hw4
      clear hw4
      have hJ4 := HA.out _ _ w4 none HJ3.out (grown_none b4) (fun r e => by cases e)
      have hb4 := cell_kept_ b4 hb3
      gi_wp2
      go_roundw
      case rel => exact ⟨kid t c, pre ++ [⟨t, hmem⟩], rfl, ⟨by have h := HP.out; rw [HPK.out] at h; rw [List.map_append, List.append_assoc]; exact h⟩, hD3.out.on b4, hb4, HB3.out.on b4, Nat.le_trans hz3 b4.size, hJ4⟩
      case measure =>
       rw [hmes.out]
       cases hkd : kid t c with
       | none =>
        exfalso
        cases t with
        | lf a x v => simp only [Cr.Tr.bit] at hlt; omega
        | br a b l r => cases hkd
       | some u =>
        obtain ⟨k1, k2, k3, _⟩ := kid_ok (HN3.out.on b4) hw hkd
        show msr w4 (.pointer (some ⟨u.ad, 0, none⟩)) < _
        rw [msr_node k1 k2]
        have := Cr.Tr.bit_le k2
        omega
   ·have hp := HE.out (path_out hlt)
    have hdc : decide ((t.bit : Int) < (d : Int)) = false := decide_eq_false (by omega)
    clear HE HP HD hJ hkb
    gi_wp2
    refine wpIn_wide.2 ?_
    go_quiet (fail)
    gi_wp2
    go_end0
    exact ⟨⟨_, rfl⟩, .inl ⟨pre, hp, HJ.out _⟩⟩
theorem psd_stops (n : Nat) (hn : 4 ≤ n) (Bk Bt Bb g : Nat) (k : D.Ky) (d : Nat) (hd : d ≤ 200) (o : Option Tk) (n0 : Nat) (X : List Nat)
  (w : World) (hk : kS.rd w ⟨Bk, 0, none⟩ = some k) (ht : w.cell? ⟨Bt, 0, none⟩ = some (.pointer (some ⟨g, 0, none⟩))) (hb : w.cell? ⟨Bb, 0, none⟩ = some (.int .i64 (d : Nat))) (hT : TR w g o) (hXb : Bb < n0 ∧ Bb ∉ X) (hXn : ∀ t, o = some t → ∀ g ∈ t.bl, g < n0 ∧ g ∉ X) (h0n : n0 ≤ w.heap.size) :
  SeqStopsK Fence.wide n Tryz.prog 165 #[.pointer (some ⟨Bk, 0, none⟩), .pointer (some ⟨Bt, 0, none⟩), .pointer (some ⟨Bb, 0, none⟩)] (fun y : { t : Tk // t ∈ pth k d o } => #[.pointer (some ⟨y.1.ad, 0, none⟩)]) (Kp n0 X) (fun ys => ys.map (·.1) = pth k d o) (fun _ => True) (pth k d o).length w := fun l J Jx W hW hJ _ hY h0 =>
 (psd_in n hn l Bk Bt Bb g k d hd o n0 X J Jx W (Shp.rd_on hk hW) (cell_kept_ hW ht) (cell_kept_ hW hb) (hT.on hW) hXb ⟨fun t e => ⟨(hT.nd t e).on hW, hT.wf t e, hXn t e⟩⟩ (Nat.le_trans h0n hW.size) hJ hY h0).mono fun e W' ⟨h1, h2⟩ => ⟨h1, h2.elim .inl fun ⟨pre, h⟩ => .inr ⟨pre, trivial, h⟩⟩

def stp (k : D.Ky) (p : Addr) (t : Tk) : Addr := ⟨t.ad, 1 + D.sd k t.bit, none⟩
def plc (k : D.Ky) (p : Addr) (l : List Tk) : Addr := l.foldl (stp k) p
theorem plc_app (k : D.Ky) (p : Addr) (l : List Tk) (t : Tk) : plc k p (l ++ [t]) = ⟨t.ad, 1 + D.sd k t.bit, none⟩ := by simp [plc, stp]
def subo (k : D.Ky) (d : Nat) : Option Tk → Option Tk
 | none => none
 | some t => some (t.sub k d)
theorem sub_cell {w : World} {k : D.Ky} {d : Nat} (hd : d ≤ 200) : ∀ {t : Tk} {p : Addr}, Nd w t → t.wf → w.cell? p = some (.pointer (some ⟨t.ad, 0, none⟩)) → w.cell? (plc k p (t.path k d)) = some (.pointer (some ⟨(t.sub k d).ad, 0, none⟩))
 | .lf _ _ _, p, _, _, hp => hp
 | .br a b l r, p, h, hw, hp => by
  simp only [Cr.Tr.path, Cr.Tr.sub]
  by_cases hb : b < d
  ·rw [if_pos hb, if_pos hb]
   by_cases hc : Cr.Bits.bt k b = true
   ·rw [if_pos hc, if_pos hc]
    refine sub_cell hd (p := ⟨a, 1 + D.sd k b, none⟩) h.2.2 hw.2.2.2.2.2 ?_
    exact kid_cell (t := .br a b l r) h hw.1 (c := true) hc
   ·have hc : Cr.Bits.bt k b = false := by simpa using hc
    rw [if_neg (by rw [hc]; decide), if_neg (by rw [hc]; decide)]
    refine sub_cell hd (p := ⟨a, 1 + D.sd k b, none⟩) h.2.1 hw.2.2.2.2.1 ?_
    exact kid_cell (t := .br a b l r) h hw.1 (c := false) hc
  ·rw [if_neg hb, if_neg hb]; exact hp
theorem TR.sub_cell {w : World} {g : Nat} {o : Option Tk} (h : TR w g o) {k : D.Ky} {d : Nat} (hd : d ≤ 200) : w.cell? (plc k ⟨g, 0, none⟩ (pth k d o)) = some (.pointer (pt (subo k d o))) := by
 cases o with
 | none => exact h.root
 | some t => exact Go.Proofs.YtjlaffgbmcpldaaGreatDoor.sub_cell hd (h.nd t rfl) (h.wf t rfl) h.root
theorem mem_path {w : World} {k : D.Ky} {d : Nat} : ∀ {t : Tk} {y : Tk}, Nd w t → t.wf → y ∈ t.path k d → Nd w y ∧ y.wf ∧ y.bit < d ∧ ∀ g ∈ y.bl, g ∈ t.bl
 | .lf _ _ _, y, _, _, hy => by simp [Cr.Tr.path] at hy
 | .br a b l r, y, h, hw, hy => by
  simp only [Cr.Tr.path] at hy
  by_cases hb : b < d
  ·rw [if_pos hb] at hy
   rcases List.mem_cons.1 hy with rfl | hy
   ·exact ⟨h, hw, hb, fun g hg => hg⟩
   ·by_cases hc : Cr.Bits.bt k b = true
    ·rw [if_pos hc] at hy
     obtain ⟨h1, h2, h3, h4⟩ := mem_path h.2.2 hw.2.2.2.2.2 hy
     exact ⟨h1, h2, h3, fun g hg => by simp [Cr.Tr.bl, h4 g hg]⟩
    ·rw [if_neg hc] at hy
     obtain ⟨h1, h2, h3, h4⟩ := mem_path h.2.1 hw.2.2.2.2.1 hy
     exact ⟨h1, h2, h3, fun g hg => by simp [Cr.Tr.bl, h4 g hg]⟩
  ·rw [if_neg hb] at hy; cases hy
theorem TR.mem {w : World} {g : Nat} {o : Option Tk} (h : TR w g o) {k : D.Ky} {d : Nat} {y : Tk} (hy : y ∈ pth k d o) : Nd w y ∧ y.wf ∧ y.bit < d ∧ ∃ t, o = some t ∧ ∀ g ∈ y.bl, g ∈ t.bl := by
 cases o with
 | none => cases hy
 | some t =>
  obtain ⟨h1, h2, h3, h4⟩ := mem_path (h.nd t rfl) (h.wf t rfl) hy
  exact ⟨h1, h2, h3, t, rfl, h4⟩
structure Ov (n0 : Nat) (X : List Nat) (w W : World) : Prop where
 os : W.os = w.os
 tape : W.tape = w.tape
 output : W.output = w.output
 size : w.heap.size ≤ W.heap.size
 block : ∀ q, q < n0 → q ∉ X → W.heap[q]? = w.heap[q]?
theorem Ov.refl (n0 : Nat) (X : List Nat) (w : World) : Ov n0 X w w := ⟨rfl, rfl, rfl, Nat.le_refl _, fun _ _ _ => rfl⟩
theorem Ov.trans {n0 : Nat} {X : List Nat} {w W V : World} (h : Ov n0 X w W) (k : Ov n0 X W V) : Ov n0 X w V :=
 ⟨k.os.trans h.os, k.tape.trans h.tape, k.output.trans h.output, Nat.le_trans h.size k.size, fun q h1 h2 => (k.block q h1 h2).trans (h.block q h1 h2)⟩
theorem Ov.on {n0 : Nat} {X : List Nat} {w W V : World} (h : Ov n0 X w W) (hn : n0 ≤ w.heap.size) (hb : Below W.heap.size W V) : Ov n0 X w V :=
 ⟨hb.os.trans h.os, hb.tape.trans h.tape, hb.output.trans h.output, Nat.le_trans h.size hb.size, fun q h1 h2 => (hb.block q (by have := h.size; omega)).trans (h.block q h1 h2)⟩
theorem Ov.grown {n0 : Nat} {X : List Nat} {w W V : World} {row : Option Nat} (h : Ov n0 X w W) (hn : n0 ≤ w.heap.size) (hg : W.grownBy V row) (hr : ∀ r, row = some r → n0 ≤ r ∨ r ∈ X) : Ov n0 X w V :=
 ⟨hg.os.trans h.os, hg.tape.trans h.tape, hg.output.trans h.output, Nat.le_trans h.size hg.size, fun q h1 h2 => (hg.block q (by have := h.size; omega) (fun e => by rcases hr q e.symm with c | c; omega; exact h2 c)).trans (h.block q h1 h2)⟩
theorem Ov.set {n0 : Nat} {X : List Nat} {w W : World} (h : Ov n0 X w W) {a : Addr} (ha : a.block ∈ X) (v : Value) : Ov n0 X w (W.setCell a v) :=
 ⟨h.os, h.tape, h.output, by have := h.size; simp [World.setCell]; exact this, fun q h1 h2 => (Below.heap_setCell W a v q (fun e => h2 (by rw [e]; exact ha))).trans (h.block q h1 h2)⟩
theorem Ov.put {n0 : Nat} {X : List Nat} {w W : World} (h : Ov n0 X w W) {l : Nat} (hl : n0 ≤ l) (o : Obj) : Ov n0 X w (W.putObj l o) :=
 ⟨h.os, h.tape, h.output, by have := h.size; simp [World.putObj]; exact this, fun q h1 h2 => (World.putObj_heap_other (by omega)).trans (h.block q h1 h2)⟩
theorem Ov.below {n0 b : Nat} {X : List Nat} {w W : World} (h : Ov n0 X w W) (hb : b ≤ n0) (hx : ∀ x ∈ X, b ≤ x) : Below b w W :=
 ⟨h.os, h.tape, h.output, h.size, fun q hq => h.block q (by omega) (fun c => by have := hx q c; omega)⟩
theorem Ov.nd {n0 : Nat} {X : List Nat} {w W : World} (h : Ov n0 X w W) {t : Tk} (ht : Nd w t) (hk : ∀ g ∈ t.bl, g < n0 ∧ g ∉ X) : Nd W t := ht.kept fun g hg => h.block g (hk g hg).1 (hk g hg).2
theorem Ov.own {n0 B : Nat} {X : List Nat} {w : World} (hn : n0 ≤ w.heap.size) (hB : n0 ≤ B) {β : Type} (p : β → Prop) : OwnFrom B (fun (s : β) W => Ov n0 X w W ∧ p s) := fun s W W' row hs hg hr =>
 ⟨hs.1.grown hn hg fun r e => .inl (Nat.le_trans hB (hr r e).1), hs.2⟩
theorem blk_own {B g : Nat} {t : TypeId} {β : Type} (f : β → Array Value) : OwnFrom B (fun (s : β) W => Blk W g t (f s)) := fun s W W' row hs hg hr =>
 hs.grown hg (by intro e'; obtain ⟨_, o, ho, hc⟩ := hr _ e'.symm; rw [hs.out] at ho; injection ho with ho; subst ho; cases hc)
end Go.Proofs.YtjlaffgbmcpldaaGreatDoor
namespace Go.Proofs.YtjlaffgbmcpldaaGreatDoor
open Go.RowKit
theorem rowsIn_of {P : Program} {row : String} {args : Array Value} {w : World} {R : Value → World → Prop} {n l : Nat} (h : Rows P row args w R) : RowsIn (Fence.wide.inRound l) n P row args w R := fun c cs _ =>
 let ⟨v, w', r, s⟩ := h c cs; ⟨v, w', r, stepsIn_wide.2 s⟩
section
variable {P : Program} {Q : Exit → Act → World → Prop} {n l : Nat}
theorem uponIn_of {o : Oper} {a : Act} {K K' : Act → World → Prop} (hK : ∀ a w, K a w → K' a w) : ∀ {r : Result Next}, o.upon P a K Q r → o.uponIn (Fence.wide.inRound l) n P a K' Q r
 | .ok (.value v) w', h => hK _ _ h
 | .ok .skip w', h => hK _ _ h
 | .ok (.defer d) w', h => hK _ _ h
 | .ok (.enter f args) w', h => ⟨fun e => (by cases e), CallsIn.inRound l (callsIn_wide.2 (Calls.mono h fun e w' h' => by
   cases e with
   | returned v => exact hK _ _ h'
   | panicked c => exact h'
   | outgrown => exact h'))⟩
 | .ok (.row row args) w', h => ⟨fun e => (by cases e), rowsIn_of (Rows.mono h fun v w' h' => hK _ _ h')⟩
 | .halt (.panic v) w', h => h
theorem wpOpIn_of {ops : Array Oper} {i : Nat} {a : Act} {w : World} {K K' : Act → World → Prop} (hQ : ¬ LetsOut Q) (hd : ∀ o : Oper, ops[i]? = some o → ∀ c, o.op ≠ Op.defer c) (hK : ∀ a w, K a w → K' a w) (h : wpOp P ops Q i K a w) : wpOpIn (Fence.wide.inRound l) n P ops Q i K' a w := by
 unfold wpOp at h
 unfold wpOpIn
 cases ho : ops[i]? with
 | none => rw [ho] at h; exact hK _ _ h
 | some o =>
  rw [ho] at h
  simp only at h ⊢
  by_cases hw : Region.wanted o (yielded ops a.tmps) = true
  ·rw [if_pos hw] at h ⊢
   rcases h with h | ⟨_, h⟩
   ·refine ⟨fun _ _ => trivial, ?_⟩
    rw [Oper.semAt_eq _ _ _ (hd o ho)]
    exact uponIn_of hK h
   ·exact absurd h hQ
  ·rw [if_neg hw] at h ⊢
   exact ⟨fun _ _ => trivial, hK _ _ h⟩
theorem wpAnyIn_of {ops : Array Oper} {md : Region.Mode} (hQ : ¬ LetsOut Q) (hd : ∀ (i : Nat) (o : Oper), ops[i]? = some o → ∀ c, o.op ≠ Op.defer c) : ∀ (fuel : Nat) (listed : Array Bool) (a : Act) (w : World), wpAny P md ops Q fuel listed a w → wpAnyIn (Fence.wide.inRound l) n P md ops Q fuel listed a w
 | 0, _, _, _, h => h
 | fuel + 1, listed, _, _, h => ⟨h.1, fun i hi => wpOpIn_of hQ (hd i) (fun a w => wpAnyIn_of hQ hd fuel _ a w) (h.2 i hi)⟩
def noDefer (ops : Array Oper) : Bool := ops.toList.all fun o => match o.op with | .defer _ => false | _ => true
theorem noDefer_spec {ops : Array Oper} (h : noDefer ops = true) : ∀ (i : Nat) (o : Oper), ops[i]? = some o → ∀ c, o.op ≠ Op.defer c := by
 intro i o ho c e
 have := List.all_eq_true.1 h o (by have := Array.mem_of_getElem? ho; simpa using this)
 rw [e] at this
 cases this
def Nrm (R : Act → World → Prop) : Exit → Act → World → Prop
 | .normal, a, w => R a w
 | _, _, _ => False
theorem nrm_out {R : Act → World → Prop} : ¬ LetsOut (Nrm R) := fun ⟨_, _, h⟩ => h
theorem region_round {ops : Array Oper} {S : World → Prop} {id : Nat} {a : Act} {w : World} {R : Act → World → Prop} (hm : P.follows .mixedOrders = true) (hd : noDefer ops = true) (hS : S w.drew)
  (h : S w.drew → wpAnyH P .any ops (Nrm R) S ops.size (Array.replicate ops.size false) a w.drew) (hR : ∀ a' w', R a' w' → Q .normal a' w') : (Code.region id ops true).wpIn (Fence.wide.inRound l) n P Q a w := by
 refine wpIn_mono (Q := Nrm R) (wpIn_region_any hm (wpAnyIn_of nrm_out (noDefer_spec hd) _ _ _ _ (wpAny_of_held _ _ _ _ (h hS)))) ?_
 intro e a' w' hq
 cases e with
 | normal => exact hR _ _ hq
 | exit id => exact hq.elim
 | goto l => exact hq.elim
 | ret => exact hq.elim
 | panic ch => exact hq.elim
 | outgrown => exact hq.elim
end
end Go.Proofs.YtjlaffgbmcpldaaGreatDoor
namespace Go.Proofs.YtjlaffgbmcpldaaGreatDoor
open Go.RowKit Go.Shelf
attribute [local go_sem] Oper.semAt_some
attribute [local go_sem ↓] Go.wp_at_zero Go.wp_at_succ ld_k lv_k st_k eq_k ne_k bd_k ld_b lv_b st_b eq_b ne_b bd_25 ld_r lv_r st_rk eq_rk ne_rk bd_r ld_p lv_p st_px bd_p Nm.ld_a Nm.ld_n Nm.st_a Nm.st_n Nm.eq_a Nm.eq_n Nm.ne_a Nm.ne_n Nm.lv_a Nm.lv_n ld_a ld_n st_a st_n eq_a eq_n ne_a ne_n lv_a lv_n ld_l lv_l st_l bd_l bd_n bs_k
attribute [local go_sem] run_ldk run_lvk run_stk run_eqk run_nek run_bdk_z run_ldb run_lvb run_stb run_eqb run_neb run_ldr run_lvr run_strk run_eqrk run_nerk run_bdr_z run_ldp run_lvp run_stpx Nm.run_ld_a Nm.run_ld_n Nm.run_st_n Nm.run_eq_a Nm.run_eq_n Nm.run_ne_a Nm.run_ne_n Nm.run_lv_a Nm.run_lv_n Nm.rd_new Nm.rd_old Nm.rd_drew Nm.rd_drewN run_ld_a run_ld_n run_sw_a run_sw_n run_eq_a run_eq_n run_ne_a run_ne_n run_lv_a run_lv_n st_z ne_z eq_z rd_new rd_old rd_drew rd_drewN Shp.rd_new Shp.rd_old Shp.rd_drew Shp.rd_drewN Shp.rd_set Shp.tn_new Shp.tn_old Shp.tn_drew Shp.tn_drewN tn_new tn_old tn_drew tn_drewN rd_set setRow_alloc run_stn3 run_stt15 run_lvl run_ldl run_stl run_bdl run_bdn run_bdn0 run_bsk Shp.rd_extk cell_ext
set_option maxHeartbeats 16000000 in
theorem place_any (g : Nat) (o : Option Tk) (k : D.Ky) (d : Nat) (hd : d ≤ 200) (w : World) (hT : TR w g o) : Calls Tryz.prog 105 #[.pointer (some ⟨g, 0, none⟩), .agg (kS.v k), .int .i64 (d : Nat)] w fun e w' => e = .returned (.pointer (some (plc k ⟨g, 0, none⟩ (pth k d o)))) ∧ Below w.heap.size w w' := by
 have CB := Lib.hid (fun w => kbytes_any k w)
 have CP := Lib.hid (fun w => passed_any (some ⟨g, 0, none⟩) k (d : Nat) w)
 have CS := Lib.hid (fun i (hi : i < 200) w => side_any k i hi w)
 obtain ⟨w0, hw0⟩ : ∃ w0, w.alloc (.cells (kS.v k) 39) = w0 := ⟨_, rfl⟩
 have f0 : kS.rd w0 ⟨w.heap.size, 0, none⟩ = some k := by rw [← hw0]; exact Shp.rd_new _ _ _ _ rfl
 have b0 : Below w.heap.size w w0 := by rw [← hw0]; exact below_alloc_ _ _
 have hT0 := hT.on b0
 have hz0 : w.heap.size < w0.heap.size := by rw [← hw0]; simp
 refine (callsIn_wide (n := 10)).1 ?_
 refine callsIn_of_wp_marks Tryz.func105 rfl trivial ?_ rfl
 simp only [Tryz.ntmps105, List.size_toArray, List.length_cons, List.length_nil, Nat.reduceAdd, Nat.reduceSub, Array.replicate_succ, Array.replicate_zero, List.push_toArray, List.append_toArray, List.nil_append, List.cons_append]
 gi_wp2
 try rw [hw0]
 clear hw0
 refine wpIn_wide.2 ?_
 go_cut [7, 8] from 10 (fun s7 s8 wx => ∃ k7 k8 : Nat, s7 = .pointer (some ⟨k7, 0, none⟩) ∧ s8 = .pointer (some ⟨k8, 0, none⟩) ∧ Blk wx k7 208 #[.pointer (some ⟨g, 0, none⟩)] ∧ kS.rd wx ⟨k8, 0, none⟩ = some k ∧ w0.heap.size ≤ k7 ∧ w0.heap.size ≤ k8 ∧ Below w0.heap.size w0 wx)
 case first =>
  refine wp_region_noPanic ?_
  refine wp_region_held_drew (S := fun W => Below w0.heap.size w0 W) (by kernel_rfl) (Below.refl _ _).drew (fun _ => ?_)
  obtain ⟨wd, hwd⟩ : ∃ wd, w0.drew = wd := ⟨_, rfl⟩
  have sd : Below w0.heap.size w0 wd := by rw [← hwd]; exact (Below.refl _ _).drew
  rw [hwd]
  clear hwd
  refine takeT 0 (some 10) ?vr0 ?hyr0 sd ?restr0
  case hyr0 => (intro o ho W hW; simp only [gT, gS, gZ, sI] at ho; subst ho; (try dsimp only at hW); go_simp; try rfl)
  try simp only [Act.put, iT, iZ, iS]
  refine takeT 2 (some 12) ?vr2 ?hyr2 sd ?restr2
  case hyr2 => (intro o ho W hW; simp only [gT, gS, gZ, sI] at ho; subst ho; (try dsimp only at hW); have g0 := Shp.rd_on f0 hW; go_simp; try rfl)
  try simp only [Act.put, iT, iZ, iS]
  refine fork3 1 4 5 (by kernel_rfl) (by rfl) (by rfl) (by rfl) (fun o ho K hK => ?_) (fun o ho K hK => ?_) (fun o ho K hK => ?_)
  ·simp only [gT, gS, gZ, sI] at ho; subst ho
   go_simp
   (go_at_call 134; (with_reducible refine (top_any g _).mono ?_); rintro e u1x ⟨rfl, rfl⟩)
   refine hK.out _ _ sd (fun _ => ?_)
   clear hK K
   try simp only [Act.put, iT, iZ, iS]
   refine fork3 3 4 5 (by kernel_rfl) (by rfl) (by rfl) (by rfl) (fun o ho K hK => ?_) (fun o ho K hK => ?_) (fun o ho K hK => ?_)
   ·simp only [gT, gS, gZ, sI] at ho; subst ho
    go_simp
    (go_at_call 131; (with_reducible refine (CB.out _).mono ?_); rintro e u2w ⟨rfl, b2⟩)
    have s2 : Below w0.heap.size w0 u2w := below_up sd sd.size b2
    refine hK.out _ _ s2 (fun _ => ?_)
    clear hK K
    try simp only [Act.put, iT, iZ, iS]
    refine forkS 4 5 (by kernel_rfl) (by rfl) (by rfl) (fun o ho K hK => ?_) (fun o ho K hK => ?_)
    ·simp only [gT, gS, gZ, sI] at ho; subst ho
     go_simp
     have s3 : Below w0.heap.size w0 (u2w.alloc (.cells #[.pointer none] 208)) := s2.alloc s2.size _
     have q3 : Blk (u2w.alloc (.cells #[.pointer none] 208)) u2w.heap.size 208 #[.pointer none] := Blk.new u2w _ _
     refine hK.out _ _ s3 (fun _ => ?_)
     clear hK K
     try simp only [Act.put, iT, iZ, iS]
     obtain ⟨u3w, hu3w⟩ : ∃ V, u2w.alloc (.cells #[.pointer none] 208) = V := ⟨_, rfl⟩
     rw [hu3w] at s3 q3
     rw [hu3w]
     clear hu3w
     refine nextS 5 (by kernel_rfl) (by rfl) (fun o ho K hK => ?_)
     simp only [gT, gS, gZ, sI] at ho; subst ho
     go_simp
     have s4 : Below w0.heap.size w0 (u3w.alloc (.cells z25 201)) := s3.alloc s3.size _
     have q4 : Shp.tn 25 (u3w.alloc (.cells z25 201)) u3w.heap.size = true := Shp.tn_of (Blk.new u3w _ _) rfl
     have t4_4 := Blk.on q3 (below_alloc_ u3w (.cells z25 201))
     have ne4_5 : u2w.heap.size ≠ u3w.heap.size := Nat.ne_of_lt (Blk.lt q3)
     refine hK.out _ _ s4 (fun _ => ?_)
     clear hK K
     try simp only [Act.put, iT, iZ, iS]
     obtain ⟨u4w, hu4w⟩ : ∃ V, u3w.alloc (.cells z25 201) = V := ⟨_, rfl⟩
     rw [hu4w] at s4 q4 t4_4
     rw [hu4w]
     clear hu4w
     have hc4 := t4_4.cell
     have hf4 := t4_4.free
     have B4 : Blk (u4w.setCell ⟨u2w.heap.size, 0, none⟩ (.pointer (some ⟨g, 0, none⟩))) (u2w.heap.size) 208 #[(.pointer (some ⟨g, 0, none⟩))] := t4_4.set_ _
     have t6 : Shp.tn 25 (u4w.setCell ⟨u2w.heap.size, 0, none⟩ (.pointer (some ⟨g, 0, none⟩))) (u3w.heap.size) = true := (Shp.tn_to (Below.heap_setCell _ _ _ _ (Ne.symm ne4_5))).trans q4
     refine nextS 6 (by kernel_rfl) (by rfl) (fun o ho K hK => ?_)
     simp only [gT, gS, gZ, sI] at ho; subst ho
     go_simp
     have sA : Below w0.heap.size w0 (u4w.setCell ⟨u2w.heap.size, 0, none⟩ (.pointer (some ⟨g, 0, none⟩))) := s4.setCell s2.size _
     refine hK.out _ _ sA (fun _ => ?_)
     clear hK K
     try simp only [Act.put, iT, iZ, iS]
     refine nextS 7 (by kernel_rfl) (by rfl) (fun o ho K hK => ?_)
     simp only [gT, gS, gZ, sI] at ho; subst ho
     go_simp
     have sB : Below w0.heap.size w0 ((u4w.setCell ⟨u2w.heap.size, 0, none⟩ (.pointer (some ⟨g, 0, none⟩))).setRow (u3w.heap.size) (kS.v k)) := below_setRow sA s3.size _
     refine hK.out _ _ sB (fun _ => ?_)
     clear hK K
     try simp only [Act.put, iT, iZ, iS]
     refine wpAnyH_done (by kernel_rfl) ?_ _
     refine NoPanic.normal ?_
     have RB := Shp.rd_set (S := kS) (u4w.setCell ⟨u2w.heap.size, 0, none⟩ (.pointer (some ⟨g, 0, none⟩))) (u3w.heap.size) k t6
     have A4 : Blk ((u4w.setCell ⟨u2w.heap.size, 0, none⟩ (.pointer (some ⟨g, 0, none⟩))).setRow (u3w.heap.size) (kS.v k)) (u2w.heap.size) 208 #[(.pointer (some ⟨g, 0, none⟩))] := ⟨(heap_setRow _ _ _ _ ne4_5).trans B4.out⟩
     have z4 : w0.heap.size ≤ u2w.heap.size := s2.size
     have z5 : w0.heap.size ≤ u3w.heap.size := s3.size
     go_wp2_with fail
     go_meet
     exact ⟨_, _, rfl, rfl, A4, RB, z4, z5, sB⟩
    ·simp only [gT, gS, gZ, sI] at ho; subst ho
     go_simp
     have s5 : Below w0.heap.size w0 (u2w.alloc (.cells z25 201)) := s2.alloc s2.size _
     have q5 : Shp.tn 25 (u2w.alloc (.cells z25 201)) u2w.heap.size = true := Shp.tn_of (Blk.new u2w _ _) rfl
     refine hK.out _ _ s5 (fun _ => ?_)
     clear hK K
     try simp only [Act.put, iT, iZ, iS]
     obtain ⟨u5w, hu5w⟩ : ∃ V, u2w.alloc (.cells z25 201) = V := ⟨_, rfl⟩
     rw [hu5w] at s5 q5
     rw [hu5w]
     clear hu5w
     refine nextS 4 (by kernel_rfl) (by rfl) (fun o ho K hK => ?_)
     simp only [gT, gS, gZ, sI] at ho; subst ho
     go_simp
     have s6 : Below w0.heap.size w0 (u5w.alloc (.cells #[.pointer none] 208)) := s5.alloc s5.size _
     have q6 : Blk (u5w.alloc (.cells #[.pointer none] 208)) u5w.heap.size 208 #[.pointer none] := Blk.new u5w _ _
     have t5_6 := Shp.tn_on q5 (below_alloc_ u5w (.cells #[.pointer none] 208))
     have ne4_5 : u5w.heap.size ≠ u2w.heap.size := Nat.ne_of_gt (Shp.tn_lt q5)
     refine hK.out _ _ s6 (fun _ => ?_)
     clear hK K
     try simp only [Act.put, iT, iZ, iS]
     obtain ⟨u6w, hu6w⟩ : ∃ V, u5w.alloc (.cells #[.pointer none] 208) = V := ⟨_, rfl⟩
     rw [hu6w] at s6 q6 t5_6
     rw [hu6w]
     clear hu6w
     have hc4 := q6.cell
     have hf4 := q6.free
     have B4 : Blk (u6w.setCell ⟨u5w.heap.size, 0, none⟩ (.pointer (some ⟨g, 0, none⟩))) (u5w.heap.size) 208 #[(.pointer (some ⟨g, 0, none⟩))] := q6.set_ _
     have t6 : Shp.tn 25 (u6w.setCell ⟨u5w.heap.size, 0, none⟩ (.pointer (some ⟨g, 0, none⟩))) (u2w.heap.size) = true := (Shp.tn_to (Below.heap_setCell _ _ _ _ (Ne.symm ne4_5))).trans t5_6
     refine nextS 6 (by kernel_rfl) (by rfl) (fun o ho K hK => ?_)
     simp only [gT, gS, gZ, sI] at ho; subst ho
     go_simp
     have sA : Below w0.heap.size w0 (u6w.setCell ⟨u5w.heap.size, 0, none⟩ (.pointer (some ⟨g, 0, none⟩))) := s6.setCell s5.size _
     refine hK.out _ _ sA (fun _ => ?_)
     clear hK K
     try simp only [Act.put, iT, iZ, iS]
     refine nextS 7 (by kernel_rfl) (by rfl) (fun o ho K hK => ?_)
     simp only [gT, gS, gZ, sI] at ho; subst ho
     go_simp
     have sB : Below w0.heap.size w0 ((u6w.setCell ⟨u5w.heap.size, 0, none⟩ (.pointer (some ⟨g, 0, none⟩))).setRow (u2w.heap.size) (kS.v k)) := below_setRow sA s2.size _
     refine hK.out _ _ sB (fun _ => ?_)
     clear hK K
     try simp only [Act.put, iT, iZ, iS]
     refine wpAnyH_done (by kernel_rfl) ?_ _
     refine NoPanic.normal ?_
     have RB := Shp.rd_set (S := kS) (u6w.setCell ⟨u5w.heap.size, 0, none⟩ (.pointer (some ⟨g, 0, none⟩))) (u2w.heap.size) k t6
     have A4 : Blk ((u6w.setCell ⟨u5w.heap.size, 0, none⟩ (.pointer (some ⟨g, 0, none⟩))).setRow (u2w.heap.size) (kS.v k)) (u5w.heap.size) 208 #[(.pointer (some ⟨g, 0, none⟩))] := ⟨(heap_setRow _ _ _ _ ne4_5).trans B4.out⟩
     have z4 : w0.heap.size ≤ u5w.heap.size := s5.size
     have z5 : w0.heap.size ≤ u2w.heap.size := s2.size
     go_wp2_with fail
     go_meet
     exact ⟨_, _, rfl, rfl, A4, RB, z4, z5, sB⟩
   ·simp only [gT, gS, gZ, sI] at ho; subst ho
    go_simp
    have s7 : Below w0.heap.size w0 (wd.alloc (.cells #[.pointer none] 208)) := sd.alloc sd.size _
    have q7 : Blk (wd.alloc (.cells #[.pointer none] 208)) wd.heap.size 208 #[.pointer none] := Blk.new wd _ _
    refine hK.out _ _ s7 (fun _ => ?_)
    clear hK K
    try simp only [Act.put, iT, iZ, iS]
    obtain ⟨u7w, hu7w⟩ : ∃ V, wd.alloc (.cells #[.pointer none] 208) = V := ⟨_, rfl⟩
    rw [hu7w] at s7 q7
    rw [hu7w]
    clear hu7w
    refine forkS 3 5 (by kernel_rfl) (by rfl) (by rfl) (fun o ho K hK => ?_) (fun o ho K hK => ?_)
    ·simp only [gT, gS, gZ, sI] at ho; subst ho
     go_simp
     (go_at_call 131; (with_reducible refine (CB.out _).mono ?_); rintro e u8w ⟨rfl, b8⟩)
     have s8 : Below w0.heap.size w0 u8w := below_up s7 s7.size b8
     have t4_8 := Blk.on q7 b8
     refine hK.out _ _ s8 (fun _ => ?_)
     clear hK K
     try simp only [Act.put, iT, iZ, iS]
     refine nextS 5 (by kernel_rfl) (by rfl) (fun o ho K hK => ?_)
     simp only [gT, gS, gZ, sI] at ho; subst ho
     go_simp
     have s9 : Below w0.heap.size w0 (u8w.alloc (.cells z25 201)) := s8.alloc s8.size _
     have q9 : Shp.tn 25 (u8w.alloc (.cells z25 201)) u8w.heap.size = true := Shp.tn_of (Blk.new u8w _ _) rfl
     have t4_9 := Blk.on t4_8 (below_alloc_ u8w (.cells z25 201))
     have ne4_5 : wd.heap.size ≠ u8w.heap.size := Nat.ne_of_lt (Blk.lt t4_8)
     refine hK.out _ _ s9 (fun _ => ?_)
     clear hK K
     try simp only [Act.put, iT, iZ, iS]
     obtain ⟨u9w, hu9w⟩ : ∃ V, u8w.alloc (.cells z25 201) = V := ⟨_, rfl⟩
     rw [hu9w] at s9 q9 t4_9
     rw [hu9w]
     clear hu9w
     have hc4 := t4_9.cell
     have hf4 := t4_9.free
     have B4 : Blk (u9w.setCell ⟨wd.heap.size, 0, none⟩ (.pointer (some ⟨g, 0, none⟩))) (wd.heap.size) 208 #[(.pointer (some ⟨g, 0, none⟩))] := t4_9.set_ _
     have t6 : Shp.tn 25 (u9w.setCell ⟨wd.heap.size, 0, none⟩ (.pointer (some ⟨g, 0, none⟩))) (u8w.heap.size) = true := (Shp.tn_to (Below.heap_setCell _ _ _ _ (Ne.symm ne4_5))).trans q9
     refine nextS 6 (by kernel_rfl) (by rfl) (fun o ho K hK => ?_)
     simp only [gT, gS, gZ, sI] at ho; subst ho
     go_simp
     have sA : Below w0.heap.size w0 (u9w.setCell ⟨wd.heap.size, 0, none⟩ (.pointer (some ⟨g, 0, none⟩))) := s9.setCell sd.size _
     refine hK.out _ _ sA (fun _ => ?_)
     clear hK K
     try simp only [Act.put, iT, iZ, iS]
     refine nextS 7 (by kernel_rfl) (by rfl) (fun o ho K hK => ?_)
     simp only [gT, gS, gZ, sI] at ho; subst ho
     go_simp
     have sB : Below w0.heap.size w0 ((u9w.setCell ⟨wd.heap.size, 0, none⟩ (.pointer (some ⟨g, 0, none⟩))).setRow (u8w.heap.size) (kS.v k)) := below_setRow sA s8.size _
     refine hK.out _ _ sB (fun _ => ?_)
     clear hK K
     try simp only [Act.put, iT, iZ, iS]
     refine wpAnyH_done (by kernel_rfl) ?_ _
     refine NoPanic.normal ?_
     have RB := Shp.rd_set (S := kS) (u9w.setCell ⟨wd.heap.size, 0, none⟩ (.pointer (some ⟨g, 0, none⟩))) (u8w.heap.size) k t6
     have A4 : Blk ((u9w.setCell ⟨wd.heap.size, 0, none⟩ (.pointer (some ⟨g, 0, none⟩))).setRow (u8w.heap.size) (kS.v k)) (wd.heap.size) 208 #[(.pointer (some ⟨g, 0, none⟩))] := ⟨(heap_setRow _ _ _ _ ne4_5).trans B4.out⟩
     have z4 : w0.heap.size ≤ wd.heap.size := sd.size
     have z5 : w0.heap.size ≤ u8w.heap.size := s8.size
     go_wp2_with fail
     go_meet
     exact ⟨_, _, rfl, rfl, A4, RB, z4, z5, sB⟩
    ·simp only [gT, gS, gZ, sI] at ho; subst ho
     go_simp
     have s10 : Below w0.heap.size w0 (u7w.alloc (.cells z25 201)) := s7.alloc s7.size _
     have q10 : Shp.tn 25 (u7w.alloc (.cells z25 201)) u7w.heap.size = true := Shp.tn_of (Blk.new u7w _ _) rfl
     have t4_10 := Blk.on q7 (below_alloc_ u7w (.cells z25 201))
     have ne4_5 : wd.heap.size ≠ u7w.heap.size := Nat.ne_of_lt (Blk.lt q7)
     refine hK.out _ _ s10 (fun _ => ?_)
     clear hK K
     try simp only [Act.put, iT, iZ, iS]
     obtain ⟨u10w, hu10w⟩ : ∃ V, u7w.alloc (.cells z25 201) = V := ⟨_, rfl⟩
     rw [hu10w] at s10 q10 t4_10
     rw [hu10w]
     clear hu10w
     refine nextS 3 (by kernel_rfl) (by rfl) (fun o ho K hK => ?_)
     simp only [gT, gS, gZ, sI] at ho; subst ho
     go_simp
     (go_at_call 131; (with_reducible refine (CB.out _).mono ?_); rintro e u11w ⟨rfl, b11⟩)
     have s11 : Below w0.heap.size w0 u11w := below_up s10 s10.size b11
     have t4_11 := Blk.on t4_10 b11
     have t5_11 := Shp.tn_on q10 b11
     refine hK.out _ _ s11 (fun _ => ?_)
     clear hK K
     try simp only [Act.put, iT, iZ, iS]
     have hc4 := t4_11.cell
     have hf4 := t4_11.free
     have B4 : Blk (u11w.setCell ⟨wd.heap.size, 0, none⟩ (.pointer (some ⟨g, 0, none⟩))) (wd.heap.size) 208 #[(.pointer (some ⟨g, 0, none⟩))] := t4_11.set_ _
     have t6 : Shp.tn 25 (u11w.setCell ⟨wd.heap.size, 0, none⟩ (.pointer (some ⟨g, 0, none⟩))) (u7w.heap.size) = true := (Shp.tn_to (Below.heap_setCell _ _ _ _ (Ne.symm ne4_5))).trans t5_11
     refine nextS 6 (by kernel_rfl) (by rfl) (fun o ho K hK => ?_)
     simp only [gT, gS, gZ, sI] at ho; subst ho
     go_simp
     have sA : Below w0.heap.size w0 (u11w.setCell ⟨wd.heap.size, 0, none⟩ (.pointer (some ⟨g, 0, none⟩))) := s11.setCell sd.size _
     refine hK.out _ _ sA (fun _ => ?_)
     clear hK K
     try simp only [Act.put, iT, iZ, iS]
     refine nextS 7 (by kernel_rfl) (by rfl) (fun o ho K hK => ?_)
     simp only [gT, gS, gZ, sI] at ho; subst ho
     go_simp
     have sB : Below w0.heap.size w0 ((u11w.setCell ⟨wd.heap.size, 0, none⟩ (.pointer (some ⟨g, 0, none⟩))).setRow (u7w.heap.size) (kS.v k)) := below_setRow sA s7.size _
     refine hK.out _ _ sB (fun _ => ?_)
     clear hK K
     try simp only [Act.put, iT, iZ, iS]
     refine wpAnyH_done (by kernel_rfl) ?_ _
     refine NoPanic.normal ?_
     have RB := Shp.rd_set (S := kS) (u11w.setCell ⟨wd.heap.size, 0, none⟩ (.pointer (some ⟨g, 0, none⟩))) (u7w.heap.size) k t6
     have A4 : Blk ((u11w.setCell ⟨wd.heap.size, 0, none⟩ (.pointer (some ⟨g, 0, none⟩))).setRow (u7w.heap.size) (kS.v k)) (wd.heap.size) 208 #[(.pointer (some ⟨g, 0, none⟩))] := ⟨(heap_setRow _ _ _ _ ne4_5).trans B4.out⟩
     have z4 : w0.heap.size ≤ wd.heap.size := sd.size
     have z5 : w0.heap.size ≤ u7w.heap.size := s7.size
     go_wp2_with fail
     go_meet
     exact ⟨_, _, rfl, rfl, A4, RB, z4, z5, sB⟩
   ·simp only [gT, gS, gZ, sI] at ho; subst ho
    go_simp
    have s12 : Below w0.heap.size w0 (wd.alloc (.cells z25 201)) := sd.alloc sd.size _
    have q12 : Shp.tn 25 (wd.alloc (.cells z25 201)) wd.heap.size = true := Shp.tn_of (Blk.new wd _ _) rfl
    refine hK.out _ _ s12 (fun _ => ?_)
    clear hK K
    try simp only [Act.put, iT, iZ, iS]
    obtain ⟨u12w, hu12w⟩ : ∃ V, wd.alloc (.cells z25 201) = V := ⟨_, rfl⟩
    rw [hu12w] at s12 q12
    rw [hu12w]
    clear hu12w
    refine forkS 3 4 (by kernel_rfl) (by rfl) (by rfl) (fun o ho K hK => ?_) (fun o ho K hK => ?_)
    ·simp only [gT, gS, gZ, sI] at ho; subst ho
     go_simp
     (go_at_call 131; (with_reducible refine (CB.out _).mono ?_); rintro e u13w ⟨rfl, b13⟩)
     have s13 : Below w0.heap.size w0 u13w := below_up s12 s12.size b13
     have t5_13 := Shp.tn_on q12 b13
     refine hK.out _ _ s13 (fun _ => ?_)
     clear hK K
     try simp only [Act.put, iT, iZ, iS]
     refine nextS 4 (by kernel_rfl) (by rfl) (fun o ho K hK => ?_)
     simp only [gT, gS, gZ, sI] at ho; subst ho
     go_simp
     have s14 : Below w0.heap.size w0 (u13w.alloc (.cells #[.pointer none] 208)) := s13.alloc s13.size _
     have q14 : Blk (u13w.alloc (.cells #[.pointer none] 208)) u13w.heap.size 208 #[.pointer none] := Blk.new u13w _ _
     have t5_14 := Shp.tn_on t5_13 (below_alloc_ u13w (.cells #[.pointer none] 208))
     have ne4_5 : u13w.heap.size ≠ wd.heap.size := Nat.ne_of_gt (Shp.tn_lt t5_13)
     refine hK.out _ _ s14 (fun _ => ?_)
     clear hK K
     try simp only [Act.put, iT, iZ, iS]
     obtain ⟨u14w, hu14w⟩ : ∃ V, u13w.alloc (.cells #[.pointer none] 208) = V := ⟨_, rfl⟩
     rw [hu14w] at s14 q14 t5_14
     rw [hu14w]
     clear hu14w
     have hc4 := q14.cell
     have hf4 := q14.free
     have B4 : Blk (u14w.setCell ⟨u13w.heap.size, 0, none⟩ (.pointer (some ⟨g, 0, none⟩))) (u13w.heap.size) 208 #[(.pointer (some ⟨g, 0, none⟩))] := q14.set_ _
     have t6 : Shp.tn 25 (u14w.setCell ⟨u13w.heap.size, 0, none⟩ (.pointer (some ⟨g, 0, none⟩))) (wd.heap.size) = true := (Shp.tn_to (Below.heap_setCell _ _ _ _ (Ne.symm ne4_5))).trans t5_14
     refine nextS 6 (by kernel_rfl) (by rfl) (fun o ho K hK => ?_)
     simp only [gT, gS, gZ, sI] at ho; subst ho
     go_simp
     have sA : Below w0.heap.size w0 (u14w.setCell ⟨u13w.heap.size, 0, none⟩ (.pointer (some ⟨g, 0, none⟩))) := s14.setCell s13.size _
     refine hK.out _ _ sA (fun _ => ?_)
     clear hK K
     try simp only [Act.put, iT, iZ, iS]
     refine nextS 7 (by kernel_rfl) (by rfl) (fun o ho K hK => ?_)
     simp only [gT, gS, gZ, sI] at ho; subst ho
     go_simp
     have sB : Below w0.heap.size w0 ((u14w.setCell ⟨u13w.heap.size, 0, none⟩ (.pointer (some ⟨g, 0, none⟩))).setRow (wd.heap.size) (kS.v k)) := below_setRow sA sd.size _
     refine hK.out _ _ sB (fun _ => ?_)
     clear hK K
     try simp only [Act.put, iT, iZ, iS]
     refine wpAnyH_done (by kernel_rfl) ?_ _
     refine NoPanic.normal ?_
     have RB := Shp.rd_set (S := kS) (u14w.setCell ⟨u13w.heap.size, 0, none⟩ (.pointer (some ⟨g, 0, none⟩))) (wd.heap.size) k t6
     have A4 : Blk ((u14w.setCell ⟨u13w.heap.size, 0, none⟩ (.pointer (some ⟨g, 0, none⟩))).setRow (wd.heap.size) (kS.v k)) (u13w.heap.size) 208 #[(.pointer (some ⟨g, 0, none⟩))] := ⟨(heap_setRow _ _ _ _ ne4_5).trans B4.out⟩
     have z4 : w0.heap.size ≤ u13w.heap.size := s13.size
     have z5 : w0.heap.size ≤ wd.heap.size := sd.size
     go_wp2_with fail
     go_meet
     exact ⟨_, _, rfl, rfl, A4, RB, z4, z5, sB⟩
    ·simp only [gT, gS, gZ, sI] at ho; subst ho
     go_simp
     have s15 : Below w0.heap.size w0 (u12w.alloc (.cells #[.pointer none] 208)) := s12.alloc s12.size _
     have q15 : Blk (u12w.alloc (.cells #[.pointer none] 208)) u12w.heap.size 208 #[.pointer none] := Blk.new u12w _ _
     have t5_15 := Shp.tn_on q12 (below_alloc_ u12w (.cells #[.pointer none] 208))
     have ne4_5 : u12w.heap.size ≠ wd.heap.size := Nat.ne_of_gt (Shp.tn_lt q12)
     refine hK.out _ _ s15 (fun _ => ?_)
     clear hK K
     try simp only [Act.put, iT, iZ, iS]
     obtain ⟨u15w, hu15w⟩ : ∃ V, u12w.alloc (.cells #[.pointer none] 208) = V := ⟨_, rfl⟩
     rw [hu15w] at s15 q15 t5_15
     rw [hu15w]
     clear hu15w
     refine nextS 3 (by kernel_rfl) (by rfl) (fun o ho K hK => ?_)
     simp only [gT, gS, gZ, sI] at ho; subst ho
     go_simp
     (go_at_call 131; (with_reducible refine (CB.out _).mono ?_); rintro e u16w ⟨rfl, b16⟩)
     have s16 : Below w0.heap.size w0 u16w := below_up s15 s15.size b16
     have t5_16 := Shp.tn_on t5_15 b16
     have t4_16 := Blk.on q15 b16
     refine hK.out _ _ s16 (fun _ => ?_)
     clear hK K
     try simp only [Act.put, iT, iZ, iS]
     have hc4 := t4_16.cell
     have hf4 := t4_16.free
     have B4 : Blk (u16w.setCell ⟨u12w.heap.size, 0, none⟩ (.pointer (some ⟨g, 0, none⟩))) (u12w.heap.size) 208 #[(.pointer (some ⟨g, 0, none⟩))] := t4_16.set_ _
     have t6 : Shp.tn 25 (u16w.setCell ⟨u12w.heap.size, 0, none⟩ (.pointer (some ⟨g, 0, none⟩))) (wd.heap.size) = true := (Shp.tn_to (Below.heap_setCell _ _ _ _ (Ne.symm ne4_5))).trans t5_16
     refine nextS 6 (by kernel_rfl) (by rfl) (fun o ho K hK => ?_)
     simp only [gT, gS, gZ, sI] at ho; subst ho
     go_simp
     have sA : Below w0.heap.size w0 (u16w.setCell ⟨u12w.heap.size, 0, none⟩ (.pointer (some ⟨g, 0, none⟩))) := s16.setCell s12.size _
     refine hK.out _ _ sA (fun _ => ?_)
     clear hK K
     try simp only [Act.put, iT, iZ, iS]
     refine nextS 7 (by kernel_rfl) (by rfl) (fun o ho K hK => ?_)
     simp only [gT, gS, gZ, sI] at ho; subst ho
     go_simp
     have sB : Below w0.heap.size w0 ((u16w.setCell ⟨u12w.heap.size, 0, none⟩ (.pointer (some ⟨g, 0, none⟩))).setRow (wd.heap.size) (kS.v k)) := below_setRow sA sd.size _
     refine hK.out _ _ sB (fun _ => ?_)
     clear hK K
     try simp only [Act.put, iT, iZ, iS]
     refine wpAnyH_done (by kernel_rfl) ?_ _
     refine NoPanic.normal ?_
     have RB := Shp.rd_set (S := kS) (u16w.setCell ⟨u12w.heap.size, 0, none⟩ (.pointer (some ⟨g, 0, none⟩))) (wd.heap.size) k t6
     have A4 : Blk ((u16w.setCell ⟨u12w.heap.size, 0, none⟩ (.pointer (some ⟨g, 0, none⟩))).setRow (wd.heap.size) (kS.v k)) (u12w.heap.size) 208 #[(.pointer (some ⟨g, 0, none⟩))] := ⟨(heap_setRow _ _ _ _ ne4_5).trans B4.out⟩
     have z4 : w0.heap.size ≤ u12w.heap.size := s12.size
     have z5 : w0.heap.size ≤ wd.heap.size := sd.size
     go_wp2_with fail
     go_meet
     exact ⟨_, _, rfl, rfl, A4, RB, z4, z5, sB⟩
  ·simp only [gT, gS, gZ, sI] at ho; subst ho
   go_simp
   have s17 : Below w0.heap.size w0 (wd.alloc (.cells #[.pointer none] 208)) := sd.alloc sd.size _
   have q17 : Blk (wd.alloc (.cells #[.pointer none] 208)) wd.heap.size 208 #[.pointer none] := Blk.new wd _ _
   refine hK.out _ _ s17 (fun _ => ?_)
   clear hK K
   try simp only [Act.put, iT, iZ, iS]
   obtain ⟨u17w, hu17w⟩ : ∃ V, wd.alloc (.cells #[.pointer none] 208) = V := ⟨_, rfl⟩
   rw [hu17w] at s17 q17
   rw [hu17w]
   clear hu17w
   refine forkS 1 5 (by kernel_rfl) (by rfl) (by rfl) (fun o ho K hK => ?_) (fun o ho K hK => ?_)
   ·simp only [gT, gS, gZ, sI] at ho; subst ho
    go_simp
    (go_at_call 134; (with_reducible refine (top_any g _).mono ?_); rintro e u18x ⟨rfl, rfl⟩)
    refine hK.out _ _ s17 (fun _ => ?_)
    clear hK K
    try simp only [Act.put, iT, iZ, iS]
    refine forkS 3 5 (by kernel_rfl) (by rfl) (by rfl) (fun o ho K hK => ?_) (fun o ho K hK => ?_)
    ·simp only [gT, gS, gZ, sI] at ho; subst ho
     go_simp
     (go_at_call 131; (with_reducible refine (CB.out _).mono ?_); rintro e u19w ⟨rfl, b19⟩)
     have s19 : Below w0.heap.size w0 u19w := below_up s17 s17.size b19
     have t4_19 := Blk.on q17 b19
     refine hK.out _ _ s19 (fun _ => ?_)
     clear hK K
     try simp only [Act.put, iT, iZ, iS]
     refine nextS 5 (by kernel_rfl) (by rfl) (fun o ho K hK => ?_)
     simp only [gT, gS, gZ, sI] at ho; subst ho
     go_simp
     have s20 : Below w0.heap.size w0 (u19w.alloc (.cells z25 201)) := s19.alloc s19.size _
     have q20 : Shp.tn 25 (u19w.alloc (.cells z25 201)) u19w.heap.size = true := Shp.tn_of (Blk.new u19w _ _) rfl
     have t4_20 := Blk.on t4_19 (below_alloc_ u19w (.cells z25 201))
     have ne4_5 : wd.heap.size ≠ u19w.heap.size := Nat.ne_of_lt (Blk.lt t4_19)
     refine hK.out _ _ s20 (fun _ => ?_)
     clear hK K
     try simp only [Act.put, iT, iZ, iS]
     obtain ⟨u20w, hu20w⟩ : ∃ V, u19w.alloc (.cells z25 201) = V := ⟨_, rfl⟩
     rw [hu20w] at s20 q20 t4_20
     rw [hu20w]
     clear hu20w
     have hc4 := t4_20.cell
     have hf4 := t4_20.free
     have B4 : Blk (u20w.setCell ⟨wd.heap.size, 0, none⟩ (.pointer (some ⟨g, 0, none⟩))) (wd.heap.size) 208 #[(.pointer (some ⟨g, 0, none⟩))] := t4_20.set_ _
     have t6 : Shp.tn 25 (u20w.setCell ⟨wd.heap.size, 0, none⟩ (.pointer (some ⟨g, 0, none⟩))) (u19w.heap.size) = true := (Shp.tn_to (Below.heap_setCell _ _ _ _ (Ne.symm ne4_5))).trans q20
     refine nextS 6 (by kernel_rfl) (by rfl) (fun o ho K hK => ?_)
     simp only [gT, gS, gZ, sI] at ho; subst ho
     go_simp
     have sA : Below w0.heap.size w0 (u20w.setCell ⟨wd.heap.size, 0, none⟩ (.pointer (some ⟨g, 0, none⟩))) := s20.setCell sd.size _
     refine hK.out _ _ sA (fun _ => ?_)
     clear hK K
     try simp only [Act.put, iT, iZ, iS]
     refine nextS 7 (by kernel_rfl) (by rfl) (fun o ho K hK => ?_)
     simp only [gT, gS, gZ, sI] at ho; subst ho
     go_simp
     have sB : Below w0.heap.size w0 ((u20w.setCell ⟨wd.heap.size, 0, none⟩ (.pointer (some ⟨g, 0, none⟩))).setRow (u19w.heap.size) (kS.v k)) := below_setRow sA s19.size _
     refine hK.out _ _ sB (fun _ => ?_)
     clear hK K
     try simp only [Act.put, iT, iZ, iS]
     refine wpAnyH_done (by kernel_rfl) ?_ _
     refine NoPanic.normal ?_
     have RB := Shp.rd_set (S := kS) (u20w.setCell ⟨wd.heap.size, 0, none⟩ (.pointer (some ⟨g, 0, none⟩))) (u19w.heap.size) k t6
     have A4 : Blk ((u20w.setCell ⟨wd.heap.size, 0, none⟩ (.pointer (some ⟨g, 0, none⟩))).setRow (u19w.heap.size) (kS.v k)) (wd.heap.size) 208 #[(.pointer (some ⟨g, 0, none⟩))] := ⟨(heap_setRow _ _ _ _ ne4_5).trans B4.out⟩
     have z4 : w0.heap.size ≤ wd.heap.size := sd.size
     have z5 : w0.heap.size ≤ u19w.heap.size := s19.size
     go_wp2_with fail
     go_meet
     exact ⟨_, _, rfl, rfl, A4, RB, z4, z5, sB⟩
    ·simp only [gT, gS, gZ, sI] at ho; subst ho
     go_simp
     have s21 : Below w0.heap.size w0 (u17w.alloc (.cells z25 201)) := s17.alloc s17.size _
     have q21 : Shp.tn 25 (u17w.alloc (.cells z25 201)) u17w.heap.size = true := Shp.tn_of (Blk.new u17w _ _) rfl
     have t4_21 := Blk.on q17 (below_alloc_ u17w (.cells z25 201))
     have ne4_5 : wd.heap.size ≠ u17w.heap.size := Nat.ne_of_lt (Blk.lt q17)
     refine hK.out _ _ s21 (fun _ => ?_)
     clear hK K
     try simp only [Act.put, iT, iZ, iS]
     obtain ⟨u21w, hu21w⟩ : ∃ V, u17w.alloc (.cells z25 201) = V := ⟨_, rfl⟩
     rw [hu21w] at s21 q21 t4_21
     rw [hu21w]
     clear hu21w
     refine nextS 3 (by kernel_rfl) (by rfl) (fun o ho K hK => ?_)
     simp only [gT, gS, gZ, sI] at ho; subst ho
     go_simp
     (go_at_call 131; (with_reducible refine (CB.out _).mono ?_); rintro e u22w ⟨rfl, b22⟩)
     have s22 : Below w0.heap.size w0 u22w := below_up s21 s21.size b22
     have t4_22 := Blk.on t4_21 b22
     have t5_22 := Shp.tn_on q21 b22
     refine hK.out _ _ s22 (fun _ => ?_)
     clear hK K
     try simp only [Act.put, iT, iZ, iS]
     have hc4 := t4_22.cell
     have hf4 := t4_22.free
     have B4 : Blk (u22w.setCell ⟨wd.heap.size, 0, none⟩ (.pointer (some ⟨g, 0, none⟩))) (wd.heap.size) 208 #[(.pointer (some ⟨g, 0, none⟩))] := t4_22.set_ _
     have t6 : Shp.tn 25 (u22w.setCell ⟨wd.heap.size, 0, none⟩ (.pointer (some ⟨g, 0, none⟩))) (u17w.heap.size) = true := (Shp.tn_to (Below.heap_setCell _ _ _ _ (Ne.symm ne4_5))).trans t5_22
     refine nextS 6 (by kernel_rfl) (by rfl) (fun o ho K hK => ?_)
     simp only [gT, gS, gZ, sI] at ho; subst ho
     go_simp
     have sA : Below w0.heap.size w0 (u22w.setCell ⟨wd.heap.size, 0, none⟩ (.pointer (some ⟨g, 0, none⟩))) := s22.setCell sd.size _
     refine hK.out _ _ sA (fun _ => ?_)
     clear hK K
     try simp only [Act.put, iT, iZ, iS]
     refine nextS 7 (by kernel_rfl) (by rfl) (fun o ho K hK => ?_)
     simp only [gT, gS, gZ, sI] at ho; subst ho
     go_simp
     have sB : Below w0.heap.size w0 ((u22w.setCell ⟨wd.heap.size, 0, none⟩ (.pointer (some ⟨g, 0, none⟩))).setRow (u17w.heap.size) (kS.v k)) := below_setRow sA s17.size _
     refine hK.out _ _ sB (fun _ => ?_)
     clear hK K
     try simp only [Act.put, iT, iZ, iS]
     refine wpAnyH_done (by kernel_rfl) ?_ _
     refine NoPanic.normal ?_
     have RB := Shp.rd_set (S := kS) (u22w.setCell ⟨wd.heap.size, 0, none⟩ (.pointer (some ⟨g, 0, none⟩))) (u17w.heap.size) k t6
     have A4 : Blk ((u22w.setCell ⟨wd.heap.size, 0, none⟩ (.pointer (some ⟨g, 0, none⟩))).setRow (u17w.heap.size) (kS.v k)) (wd.heap.size) 208 #[(.pointer (some ⟨g, 0, none⟩))] := ⟨(heap_setRow _ _ _ _ ne4_5).trans B4.out⟩
     have z4 : w0.heap.size ≤ wd.heap.size := sd.size
     have z5 : w0.heap.size ≤ u17w.heap.size := s17.size
     go_wp2_with fail
     go_meet
     exact ⟨_, _, rfl, rfl, A4, RB, z4, z5, sB⟩
   ·simp only [gT, gS, gZ, sI] at ho; subst ho
    go_simp
    have s23 : Below w0.heap.size w0 (u17w.alloc (.cells z25 201)) := s17.alloc s17.size _
    have q23 : Shp.tn 25 (u17w.alloc (.cells z25 201)) u17w.heap.size = true := Shp.tn_of (Blk.new u17w _ _) rfl
    have t4_23 := Blk.on q17 (below_alloc_ u17w (.cells z25 201))
    have ne4_5 : wd.heap.size ≠ u17w.heap.size := Nat.ne_of_lt (Blk.lt q17)
    refine hK.out _ _ s23 (fun _ => ?_)
    clear hK K
    try simp only [Act.put, iT, iZ, iS]
    obtain ⟨u23w, hu23w⟩ : ∃ V, u17w.alloc (.cells z25 201) = V := ⟨_, rfl⟩
    rw [hu23w] at s23 q23 t4_23
    rw [hu23w]
    clear hu23w
    refine nextS 1 (by kernel_rfl) (by rfl) (fun o ho K hK => ?_)
    simp only [gT, gS, gZ, sI] at ho; subst ho
    go_simp
    (go_at_call 134; (with_reducible refine (top_any g _).mono ?_); rintro e u24x ⟨rfl, rfl⟩)
    refine hK.out _ _ s23 (fun _ => ?_)
    clear hK K
    try simp only [Act.put, iT, iZ, iS]
    refine nextS 3 (by kernel_rfl) (by rfl) (fun o ho K hK => ?_)
    simp only [gT, gS, gZ, sI] at ho; subst ho
    go_simp
    (go_at_call 131; (with_reducible refine (CB.out _).mono ?_); rintro e u25w ⟨rfl, b25⟩)
    have s25 : Below w0.heap.size w0 u25w := below_up s23 s23.size b25
    have t4_25 := Blk.on t4_23 b25
    have t5_25 := Shp.tn_on q23 b25
    refine hK.out _ _ s25 (fun _ => ?_)
    clear hK K
    try simp only [Act.put, iT, iZ, iS]
    have hc4 := t4_25.cell
    have hf4 := t4_25.free
    have B4 : Blk (u25w.setCell ⟨wd.heap.size, 0, none⟩ (.pointer (some ⟨g, 0, none⟩))) (wd.heap.size) 208 #[(.pointer (some ⟨g, 0, none⟩))] := t4_25.set_ _
    have t6 : Shp.tn 25 (u25w.setCell ⟨wd.heap.size, 0, none⟩ (.pointer (some ⟨g, 0, none⟩))) (u17w.heap.size) = true := (Shp.tn_to (Below.heap_setCell _ _ _ _ (Ne.symm ne4_5))).trans t5_25
    refine nextS 6 (by kernel_rfl) (by rfl) (fun o ho K hK => ?_)
    simp only [gT, gS, gZ, sI] at ho; subst ho
    go_simp
    have sA : Below w0.heap.size w0 (u25w.setCell ⟨wd.heap.size, 0, none⟩ (.pointer (some ⟨g, 0, none⟩))) := s25.setCell sd.size _
    refine hK.out _ _ sA (fun _ => ?_)
    clear hK K
    try simp only [Act.put, iT, iZ, iS]
    refine nextS 7 (by kernel_rfl) (by rfl) (fun o ho K hK => ?_)
    simp only [gT, gS, gZ, sI] at ho; subst ho
    go_simp
    have sB : Below w0.heap.size w0 ((u25w.setCell ⟨wd.heap.size, 0, none⟩ (.pointer (some ⟨g, 0, none⟩))).setRow (u17w.heap.size) (kS.v k)) := below_setRow sA s17.size _
    refine hK.out _ _ sB (fun _ => ?_)
    clear hK K
    try simp only [Act.put, iT, iZ, iS]
    refine wpAnyH_done (by kernel_rfl) ?_ _
    refine NoPanic.normal ?_
    have RB := Shp.rd_set (S := kS) (u25w.setCell ⟨wd.heap.size, 0, none⟩ (.pointer (some ⟨g, 0, none⟩))) (u17w.heap.size) k t6
    have A4 : Blk ((u25w.setCell ⟨wd.heap.size, 0, none⟩ (.pointer (some ⟨g, 0, none⟩))).setRow (u17w.heap.size) (kS.v k)) (wd.heap.size) 208 #[(.pointer (some ⟨g, 0, none⟩))] := ⟨(heap_setRow _ _ _ _ ne4_5).trans B4.out⟩
    have z4 : w0.heap.size ≤ wd.heap.size := sd.size
    have z5 : w0.heap.size ≤ u17w.heap.size := s17.size
    go_wp2_with fail
    go_meet
    exact ⟨_, _, rfl, rfl, A4, RB, z4, z5, sB⟩
  ·simp only [gT, gS, gZ, sI] at ho; subst ho
   go_simp
   have s26 : Below w0.heap.size w0 (wd.alloc (.cells z25 201)) := sd.alloc sd.size _
   have q26 : Shp.tn 25 (wd.alloc (.cells z25 201)) wd.heap.size = true := Shp.tn_of (Blk.new wd _ _) rfl
   refine hK.out _ _ s26 (fun _ => ?_)
   clear hK K
   try simp only [Act.put, iT, iZ, iS]
   obtain ⟨u26w, hu26w⟩ : ∃ V, wd.alloc (.cells z25 201) = V := ⟨_, rfl⟩
   rw [hu26w] at s26 q26
   rw [hu26w]
   clear hu26w
   refine forkS 1 4 (by kernel_rfl) (by rfl) (by rfl) (fun o ho K hK => ?_) (fun o ho K hK => ?_)
   ·simp only [gT, gS, gZ, sI] at ho; subst ho
    go_simp
    (go_at_call 134; (with_reducible refine (top_any g _).mono ?_); rintro e u27x ⟨rfl, rfl⟩)
    refine hK.out _ _ s26 (fun _ => ?_)
    clear hK K
    try simp only [Act.put, iT, iZ, iS]
    refine forkS 3 4 (by kernel_rfl) (by rfl) (by rfl) (fun o ho K hK => ?_) (fun o ho K hK => ?_)
    ·simp only [gT, gS, gZ, sI] at ho; subst ho
     go_simp
     (go_at_call 131; (with_reducible refine (CB.out _).mono ?_); rintro e u28w ⟨rfl, b28⟩)
     have s28 : Below w0.heap.size w0 u28w := below_up s26 s26.size b28
     have t5_28 := Shp.tn_on q26 b28
     refine hK.out _ _ s28 (fun _ => ?_)
     clear hK K
     try simp only [Act.put, iT, iZ, iS]
     refine nextS 4 (by kernel_rfl) (by rfl) (fun o ho K hK => ?_)
     simp only [gT, gS, gZ, sI] at ho; subst ho
     go_simp
     have s29 : Below w0.heap.size w0 (u28w.alloc (.cells #[.pointer none] 208)) := s28.alloc s28.size _
     have q29 : Blk (u28w.alloc (.cells #[.pointer none] 208)) u28w.heap.size 208 #[.pointer none] := Blk.new u28w _ _
     have t5_29 := Shp.tn_on t5_28 (below_alloc_ u28w (.cells #[.pointer none] 208))
     have ne4_5 : u28w.heap.size ≠ wd.heap.size := Nat.ne_of_gt (Shp.tn_lt t5_28)
     refine hK.out _ _ s29 (fun _ => ?_)
     clear hK K
     try simp only [Act.put, iT, iZ, iS]
     obtain ⟨u29w, hu29w⟩ : ∃ V, u28w.alloc (.cells #[.pointer none] 208) = V := ⟨_, rfl⟩
     rw [hu29w] at s29 q29 t5_29
     rw [hu29w]
     clear hu29w
     have hc4 := q29.cell
     have hf4 := q29.free
     have B4 : Blk (u29w.setCell ⟨u28w.heap.size, 0, none⟩ (.pointer (some ⟨g, 0, none⟩))) (u28w.heap.size) 208 #[(.pointer (some ⟨g, 0, none⟩))] := q29.set_ _
     have t6 : Shp.tn 25 (u29w.setCell ⟨u28w.heap.size, 0, none⟩ (.pointer (some ⟨g, 0, none⟩))) (wd.heap.size) = true := (Shp.tn_to (Below.heap_setCell _ _ _ _ (Ne.symm ne4_5))).trans t5_29
     refine nextS 6 (by kernel_rfl) (by rfl) (fun o ho K hK => ?_)
     simp only [gT, gS, gZ, sI] at ho; subst ho
     go_simp
     have sA : Below w0.heap.size w0 (u29w.setCell ⟨u28w.heap.size, 0, none⟩ (.pointer (some ⟨g, 0, none⟩))) := s29.setCell s28.size _
     refine hK.out _ _ sA (fun _ => ?_)
     clear hK K
     try simp only [Act.put, iT, iZ, iS]
     refine nextS 7 (by kernel_rfl) (by rfl) (fun o ho K hK => ?_)
     simp only [gT, gS, gZ, sI] at ho; subst ho
     go_simp
     have sB : Below w0.heap.size w0 ((u29w.setCell ⟨u28w.heap.size, 0, none⟩ (.pointer (some ⟨g, 0, none⟩))).setRow (wd.heap.size) (kS.v k)) := below_setRow sA sd.size _
     refine hK.out _ _ sB (fun _ => ?_)
     clear hK K
     try simp only [Act.put, iT, iZ, iS]
     refine wpAnyH_done (by kernel_rfl) ?_ _
     refine NoPanic.normal ?_
     have RB := Shp.rd_set (S := kS) (u29w.setCell ⟨u28w.heap.size, 0, none⟩ (.pointer (some ⟨g, 0, none⟩))) (wd.heap.size) k t6
     have A4 : Blk ((u29w.setCell ⟨u28w.heap.size, 0, none⟩ (.pointer (some ⟨g, 0, none⟩))).setRow (wd.heap.size) (kS.v k)) (u28w.heap.size) 208 #[(.pointer (some ⟨g, 0, none⟩))] := ⟨(heap_setRow _ _ _ _ ne4_5).trans B4.out⟩
     have z4 : w0.heap.size ≤ u28w.heap.size := s28.size
     have z5 : w0.heap.size ≤ wd.heap.size := sd.size
     go_wp2_with fail
     go_meet
     exact ⟨_, _, rfl, rfl, A4, RB, z4, z5, sB⟩
    ·simp only [gT, gS, gZ, sI] at ho; subst ho
     go_simp
     have s30 : Below w0.heap.size w0 (u26w.alloc (.cells #[.pointer none] 208)) := s26.alloc s26.size _
     have q30 : Blk (u26w.alloc (.cells #[.pointer none] 208)) u26w.heap.size 208 #[.pointer none] := Blk.new u26w _ _
     have t5_30 := Shp.tn_on q26 (below_alloc_ u26w (.cells #[.pointer none] 208))
     have ne4_5 : u26w.heap.size ≠ wd.heap.size := Nat.ne_of_gt (Shp.tn_lt q26)
     refine hK.out _ _ s30 (fun _ => ?_)
     clear hK K
     try simp only [Act.put, iT, iZ, iS]
     obtain ⟨u30w, hu30w⟩ : ∃ V, u26w.alloc (.cells #[.pointer none] 208) = V := ⟨_, rfl⟩
     rw [hu30w] at s30 q30 t5_30
     rw [hu30w]
     clear hu30w
     refine nextS 3 (by kernel_rfl) (by rfl) (fun o ho K hK => ?_)
     simp only [gT, gS, gZ, sI] at ho; subst ho
     go_simp
     (go_at_call 131; (with_reducible refine (CB.out _).mono ?_); rintro e u31w ⟨rfl, b31⟩)
     have s31 : Below w0.heap.size w0 u31w := below_up s30 s30.size b31
     have t5_31 := Shp.tn_on t5_30 b31
     have t4_31 := Blk.on q30 b31
     refine hK.out _ _ s31 (fun _ => ?_)
     clear hK K
     try simp only [Act.put, iT, iZ, iS]
     have hc4 := t4_31.cell
     have hf4 := t4_31.free
     have B4 : Blk (u31w.setCell ⟨u26w.heap.size, 0, none⟩ (.pointer (some ⟨g, 0, none⟩))) (u26w.heap.size) 208 #[(.pointer (some ⟨g, 0, none⟩))] := t4_31.set_ _
     have t6 : Shp.tn 25 (u31w.setCell ⟨u26w.heap.size, 0, none⟩ (.pointer (some ⟨g, 0, none⟩))) (wd.heap.size) = true := (Shp.tn_to (Below.heap_setCell _ _ _ _ (Ne.symm ne4_5))).trans t5_31
     refine nextS 6 (by kernel_rfl) (by rfl) (fun o ho K hK => ?_)
     simp only [gT, gS, gZ, sI] at ho; subst ho
     go_simp
     have sA : Below w0.heap.size w0 (u31w.setCell ⟨u26w.heap.size, 0, none⟩ (.pointer (some ⟨g, 0, none⟩))) := s31.setCell s26.size _
     refine hK.out _ _ sA (fun _ => ?_)
     clear hK K
     try simp only [Act.put, iT, iZ, iS]
     refine nextS 7 (by kernel_rfl) (by rfl) (fun o ho K hK => ?_)
     simp only [gT, gS, gZ, sI] at ho; subst ho
     go_simp
     have sB : Below w0.heap.size w0 ((u31w.setCell ⟨u26w.heap.size, 0, none⟩ (.pointer (some ⟨g, 0, none⟩))).setRow (wd.heap.size) (kS.v k)) := below_setRow sA sd.size _
     refine hK.out _ _ sB (fun _ => ?_)
     clear hK K
     try simp only [Act.put, iT, iZ, iS]
     refine wpAnyH_done (by kernel_rfl) ?_ _
     refine NoPanic.normal ?_
     have RB := Shp.rd_set (S := kS) (u31w.setCell ⟨u26w.heap.size, 0, none⟩ (.pointer (some ⟨g, 0, none⟩))) (wd.heap.size) k t6
     have A4 : Blk ((u31w.setCell ⟨u26w.heap.size, 0, none⟩ (.pointer (some ⟨g, 0, none⟩))).setRow (wd.heap.size) (kS.v k)) (u26w.heap.size) 208 #[(.pointer (some ⟨g, 0, none⟩))] := ⟨(heap_setRow _ _ _ _ ne4_5).trans B4.out⟩
     have z4 : w0.heap.size ≤ u26w.heap.size := s26.size
     have z5 : w0.heap.size ≤ wd.heap.size := sd.size
     go_wp2_with fail
     go_meet
     exact ⟨_, _, rfl, rfl, A4, RB, z4, z5, sB⟩
   ·simp only [gT, gS, gZ, sI] at ho; subst ho
    go_simp
    have s32 : Below w0.heap.size w0 (u26w.alloc (.cells #[.pointer none] 208)) := s26.alloc s26.size _
    have q32 : Blk (u26w.alloc (.cells #[.pointer none] 208)) u26w.heap.size 208 #[.pointer none] := Blk.new u26w _ _
    have t5_32 := Shp.tn_on q26 (below_alloc_ u26w (.cells #[.pointer none] 208))
    have ne4_5 : u26w.heap.size ≠ wd.heap.size := Nat.ne_of_gt (Shp.tn_lt q26)
    refine hK.out _ _ s32 (fun _ => ?_)
    clear hK K
    try simp only [Act.put, iT, iZ, iS]
    obtain ⟨u32w, hu32w⟩ : ∃ V, u26w.alloc (.cells #[.pointer none] 208) = V := ⟨_, rfl⟩
    rw [hu32w] at s32 q32 t5_32
    rw [hu32w]
    clear hu32w
    refine nextS 1 (by kernel_rfl) (by rfl) (fun o ho K hK => ?_)
    simp only [gT, gS, gZ, sI] at ho; subst ho
    go_simp
    (go_at_call 134; (with_reducible refine (top_any g _).mono ?_); rintro e u33x ⟨rfl, rfl⟩)
    refine hK.out _ _ s32 (fun _ => ?_)
    clear hK K
    try simp only [Act.put, iT, iZ, iS]
    refine nextS 3 (by kernel_rfl) (by rfl) (fun o ho K hK => ?_)
    simp only [gT, gS, gZ, sI] at ho; subst ho
    go_simp
    (go_at_call 131; (with_reducible refine (CB.out _).mono ?_); rintro e u34w ⟨rfl, b34⟩)
    have s34 : Below w0.heap.size w0 u34w := below_up s32 s32.size b34
    have t5_34 := Shp.tn_on t5_32 b34
    have t4_34 := Blk.on q32 b34
    refine hK.out _ _ s34 (fun _ => ?_)
    clear hK K
    try simp only [Act.put, iT, iZ, iS]
    have hc4 := t4_34.cell
    have hf4 := t4_34.free
    have B4 : Blk (u34w.setCell ⟨u26w.heap.size, 0, none⟩ (.pointer (some ⟨g, 0, none⟩))) (u26w.heap.size) 208 #[(.pointer (some ⟨g, 0, none⟩))] := t4_34.set_ _
    have t6 : Shp.tn 25 (u34w.setCell ⟨u26w.heap.size, 0, none⟩ (.pointer (some ⟨g, 0, none⟩))) (wd.heap.size) = true := (Shp.tn_to (Below.heap_setCell _ _ _ _ (Ne.symm ne4_5))).trans t5_34
    refine nextS 6 (by kernel_rfl) (by rfl) (fun o ho K hK => ?_)
    simp only [gT, gS, gZ, sI] at ho; subst ho
    go_simp
    have sA : Below w0.heap.size w0 (u34w.setCell ⟨u26w.heap.size, 0, none⟩ (.pointer (some ⟨g, 0, none⟩))) := s34.setCell s26.size _
    refine hK.out _ _ sA (fun _ => ?_)
    clear hK K
    try simp only [Act.put, iT, iZ, iS]
    refine nextS 7 (by kernel_rfl) (by rfl) (fun o ho K hK => ?_)
    simp only [gT, gS, gZ, sI] at ho; subst ho
    go_simp
    have sB : Below w0.heap.size w0 ((u34w.setCell ⟨u26w.heap.size, 0, none⟩ (.pointer (some ⟨g, 0, none⟩))).setRow (wd.heap.size) (kS.v k)) := below_setRow sA sd.size _
    refine hK.out _ _ sB (fun _ => ?_)
    clear hK K
    try simp only [Act.put, iT, iZ, iS]
    refine wpAnyH_done (by kernel_rfl) ?_ _
    refine NoPanic.normal ?_
    have RB := Shp.rd_set (S := kS) (u34w.setCell ⟨u26w.heap.size, 0, none⟩ (.pointer (some ⟨g, 0, none⟩))) (wd.heap.size) k t6
    have A4 : Blk ((u34w.setCell ⟨u26w.heap.size, 0, none⟩ (.pointer (some ⟨g, 0, none⟩))).setRow (wd.heap.size) (kS.v k)) (u26w.heap.size) 208 #[(.pointer (some ⟨g, 0, none⟩))] := ⟨(heap_setRow _ _ _ _ ne4_5).trans B4.out⟩
    have z4 : w0.heap.size ≤ u26w.heap.size := s26.size
    have z5 : w0.heap.size ≤ wd.heap.size := sd.size
    go_wp2_with fail
    go_meet
    exact ⟨_, _, rfl, rfl, A4, RB, z4, z5, sB⟩
 case rest =>
  obtain ⟨k7, k8, rfl, rfl, B7, R8, z7, z8, b1⟩ := hcut
  have f1 := Shp.rd_on f0 b1
  have hT1 := hT0.on b1
  have bw := below_up b0 b0.size b1
  clear f0 hT0
  gi_wp2
  refine ⟨trivial, ?_⟩
  refine (callsIn_wide.2 (CP.out _)).mono ?_
  rintro e w3 ⟨rfl, hw3⟩
  have b3 : Below wc.heap.size wc w3 := by rw [hw3]; exact ((below_alloc_ _ _).alloc (by simp) _).alloc (by simp; omega) _
  have hz3 : w3.heap.size = wc.heap.size + 3 := by rw [hw3]; simp
  have ht3 : w3.cell? ⟨wc.heap.size, 0, none⟩ = some (.pointer (some ⟨g, 0, none⟩)) := by
   rw [hw3]
   exact cell_kept_ (below_alloc_ _ _) (cell_kept_ (below_alloc_ _ _) (Blk.new wc _ _).cell)
  have hk3 : kS.rd w3 ⟨wc.heap.size + 1, 0, none⟩ = some k := by
   rw [hw3]
   exact Shp.rd_on (Shp.rd_new (S := kS) _ _ _ _ (by simp)) (below_alloc_ _ _)
  have hb3 : w3.cell? ⟨wc.heap.size + 2, 0, none⟩ = some (.int .i64 (d : Nat)) := by
   rw [hw3]
   have := (Blk.new ((wc.alloc (.cells #[.pointer (some ⟨g, 0, none⟩)] 125)).alloc (.cells (kS.v k) 39)) 3 #[.int .i64 (d : Nat)]).cell
   simpa using this
  clear hw3
  have hT3 := hT1.on b3
  have B73 := B7.on b3
  have R83 := Shp.rd_on R8 b3
  have l7 := B7.lt
  have l8 := Shp.rd_lt R8
  have n78 : k8 ≠ k7 := by
   intro e
   subst e
   obtain ⟨cs, hB, hs⟩ : ∃ cs, Blk wc k8 208 cs ∧ cs.size = 1 := ⟨_, B7, rfl⟩
   have h0 := kcell_at R8 (j := 1) (by omega)
   have h1 := B7.out
   simp [World.cell?, h1] at h0
  have hX : ∀ t, o = some t → ∀ q ∈ t.bl, q < w3.heap.size ∧ q ∉ [k7] := fun t e q hq => by
   obtain ⟨cs, hB⟩ := (hT3.nd t e).lt q hq
   refine ⟨hB.lt, fun c => ?_⟩
   simp only [List.mem_singleton] at c
   exact blk_ne hB B73 (by decide) c
  clear hT1 B7 R8 f1
  gi_wp2
  refine wpIn_rangeFunc_ownH rfl (by decide) (gf := 165) (lb := #[.pointer (some ⟨wc.heap.size + 1, 0, none⟩), .pointer (some ⟨wc.heap.size, 0, none⟩), .pointer (some ⟨wc.heap.size + 2, 0, none⟩)]) rfl trivial (enters_of Tryz.func165 (by kernel_rfl) rfl)
   (psd_stops 9 (by decide) (wc.heap.size + 1) wc.heap.size (wc.heap.size + 2) g k d hd o w3.heap.size [k7] w3 hk3 ht3 hb3 hT3 ⟨by omega, by simp; omega⟩ hX (Nat.le_refl _)) (fun h k => h.trans k) (fun W l o o' h1 h2 h3 _ => Kp.put W l o o' h1 h2 h3) (Below.refl _ _) (fun _ => rfl)
   (fun pre W => Ov w3.heap.size [k7] w3 W ∧ Blk W k7 208 #[.pointer (some (plc k ⟨g, 0, none⟩ (pre.map (·.1))))]) (fun _ _ _ => False)
   (fun s W W' row hs hg hr => ⟨hs.1.grown (Nat.le_refl _) hg fun r e => .inl (hr r e).1, (blk_own (t := 208) (fun s : List { t : Tk // t ∈ pth k d o } => #[.pointer (some (plc k ⟨g, 0, none⟩ (s.map (·.1))))])) s W W' row hs.2 hg hr⟩) (fun _ _ _ _ _ hs _ _ => hs) ⟨Ov.refl _ _ _, B73⟩
   (fun y a' W => a' = { tmps := #[.pointer (some ⟨g, 0, none⟩), .agg (kS.v k), .int .i64 (d : Nat), undef, .pointer (some ⟨w.heap.size, 0, none⟩), undef, .pointer none, .pointer (some ⟨k7, 0, none⟩), .pointer (some ⟨k8, 0, none⟩), .pointer (some ⟨y.1.ad, 0, none⟩), u10, u11, u12, u13, .pointer (some ⟨g, 0, none⟩), .agg (kS.v k), .int .i64 (d : Nat), .func (.func 165) #[] #[.pointer (some ⟨wc.heap.size + 1, 0, none⟩), .pointer (some ⟨wc.heap.size, 0, none⟩), .pointer (some ⟨wc.heap.size + 2, 0, none⟩)], .pointer (some ⟨y.1.ad, 0, none⟩), u19, u20, u21, u22, u23, u24, u25, u26, u27, u28, u29], defers := [] })
   (fun _ _ _ _ _ _ hs _ _ => hs) ?assign ?body ?done ?stop
  case assign =>
   rintro l pre y W K hI hK
   gi_wp2
   exact hK _ _ (KeepsFrom.refl _ _) (Kp.refl _ _ _) hI rfl
  case body =>
   rintro l pre y a' W hl ⟨r, hr⟩ ⟨hO, hB⟩ rfl hlt
   obtain ⟨m1, m2, m3, t, m4, m5⟩ := hT3.mem y.2
   have hbl : ∀ q ∈ y.1.bl, q < w3.heap.size ∧ q ∉ [k7] := fun q hq => hX t m4 q (m5 q hq)
   have hN := hO.nd m1 hbl
   have c0 := hN.nf.bit
   have c1 : kS.rd W ⟨k8, 0, none⟩ = some k := (Shp.rd_to (hO.block k8 (by omega) (by simpa using n78))).trans R83
   have hc := hB.cell
   have hf := hB.free
   have l1 := Shp.rd_lt c1
   have l0 := hN.nf.lt
   have s0 := D.sd_le k y.1.bit
   have C1 := Lib.hid (fun w => CS.out y.1.bit (by omega) w)
   have HB := Lib.hid hB
   have HO := Lib.hid hO
   have hmix : Tryz.prog.follows .mixedOrders = true := by kernel_rfl
   obtain ⟨sd, hsd⟩ : ∃ sd, D.sd k y.1.bit = sd := ⟨_, rfl⟩
   rw [hsd] at C1 s0
   have HSD := Lib.hid hsd
   have s1 : (0 : Int) ≤ (sd : Int) := by omega
   have s2 : (sd : Int) < 2 := by omega
   clear hN hB hsd m1 m2 m3 m4 m5 hX
   gi_wp2
   have sw : Below W.heap.size W W.drew := (Below.refl _ _).drew
   have sv : Ov W.heap.size [k7] W W.drew := (Ov.refl _ _ _).on (Nat.le_refl _) sw
   have h8 : k8 ∉ [k7] := by simpa using n78
   have hy7 := (hbl y.1.ad y.1.ad_mem).2
   refine region_round (S := fun V => Ov W.heap.size [k7] W V) (R := fun _ w' => ∃ w4, Below W.heap.size W w4 ∧ w' = w4.setCell ⟨k7, 0, none⟩ (.pointer (some ⟨y.1.ad, 1 + sd, none⟩))) hmix (by kernel_rfl) sv (fun sd0 => ?_) ?_
   refine takeT 0 (some 19) ?vb0 ?hyb0 sd0 ?restb0
   case hyb0 => (intro o ho W hW; simp only [gT, gS, gZ, sI] at ho; subst ho; (try dsimp only at hW); go_simp; try rfl)
   try simp only [Act.put, iT, iZ, iS]
   refine takeT 1 (some 20) ?vb1 ?hyb1 sd0 ?restb1
   case hyb1 => (intro o ho W hW; simp only [gT, gS, gZ, sI] at ho; subst ho; (try dsimp only at hW); have g1 := (Shp.rd_to (hW.block k8 l1 h8)).trans c1; go_simp; try rfl)
   try simp only [Act.put, iT, iZ, iS]
   refine takeT 2 (some 21) ?vb2 ?hyb2 sd0 ?restb2
   case hyb2 => (intro o ho W hW; simp only [gT, gS, gZ, sI] at ho; subst ho; (try dsimp only at hW); go_simp; try rfl)
   try simp only [Act.put, iT, iZ, iS]
   refine takeT 3 (some 22) ?vb3 ?hyb3 sd0 ?restb3
   case hyb3 => (intro o ho W hW; simp only [gT, gS, gZ, sI] at ho; subst ho; (try dsimp only at hW); go_simp; try rfl)
   try simp only [Act.put, iT, iZ, iS]
   refine takeT 4 (some 23) ?vb4 ?hyb4 sd0 ?restb4
   case hyb4 => (intro o ho W hW; simp only [gT, gS, gZ, sI] at ho; subst ho; (try dsimp only at hW); go_simp; try rfl)
   try simp only [Act.put, iT, iZ, iS]
   refine takeT 5 (some 24) ?vb5 ?hyb5 sd0 ?restb5
   case hyb5 => (intro o ho W hW; simp only [gT, gS, gZ, sI] at ho; subst ho; (try dsimp only at hW); have g2 := (World.cell?_of_block (hW.block y.1.ad l0 hy7)).trans c0; go_simp; try rfl)
   try simp only [Act.put, iT, iZ, iS]
   refine takeT 7 (some 26) ?vb7 ?hyb7 sd0 ?restb7
   case hyb7 => (intro o ho W hW; simp only [gT, gS, gZ, sI] at ho; subst ho; (try dsimp only at hW); go_simp; try rfl)
   try simp only [Act.put, iT, iZ, iS]
   refine takeT 8 (some 27) ?vb8 ?hyb8 sd0 ?restb8
   case hyb8 => (intro o ho W hW; simp only [gT, gS, gZ, sI] at ho; subst ho; (try dsimp only at hW); go_simp; try rfl)
   try simp only [Act.put, iT, iZ, iS]
   refine nextS 6 (by kernel_rfl) (by rfl) (fun o ho K hK => ?_)
   simp only [gT, gS, gZ, sI] at ho; subst ho
   go_simp
   (go_at_call 132; (with_reducible refine (C1.out _).mono ?_); rintro e w4 ⟨rfl, b4⟩)
   have s4 : Below W.heap.size W w4 := below_up sw sw.size b4
   have s5 := sv.on (Nat.le_refl _) b4
   refine hK.out _ _ s5 (fun _ => ?_)
   clear hK K
   try simp only [Act.put, iT, iZ, iS]
   refine takeT 9 (some 28) ?vb9 ?hyb9 s5 ?restb9
   case hyb9 => (intro o ho W hW; simp only [gT, gS, gZ, sI] at ho; subst ho; (try dsimp only at hW); go_simp; try rfl)
   try simp only [Act.put, iT, iZ, iS]
   have B4 := HB.out.on s4
   have hc4 := B4.cell
   have hf4 := B4.free
   refine nextS 10 (by kernel_rfl) (by rfl) (fun o ho K hK => ?_)
   simp only [gT, gS, gZ, sI] at ho; subst ho
   go_simp
   have s6 := s5.set (a := ⟨k7, 0, none⟩) (by simp) (.pointer (some ⟨y.1.ad, 1 + sd, none⟩))
   refine hK.out _ _ s6 (fun _ => ?_)
   clear hK K
   try simp only [Act.put, iT, iZ, iS]
   refine wpAnyH_done (by kernel_rfl) ?_ _
   exact ⟨w4, s4, rfl⟩
   rintro a' w' ⟨w4, b4, rfl⟩
   have hO4 := HO.out.on (Nat.le_refl _) b4
   have hB4 := HB.out.on b4
   refine ⟨?_, ?_, ?_, ?_⟩
   ·exact (((KeepsOthers.of_grownBy (grown_none b4) (fun j o e h => by cases e)).trans (KeepsOthers.setCell _ _ _))).from _
   ·exact (Kp.below b4 hO.size).trans (Kp.set _ _ _ _ (by simp) hB4 (by decide))
   ·exact hO4.set (by simp) _
   ·rw [List.map_append, List.map_cons, List.map_nil, plc_app, HSD.out]
    exact hB4.set_ _
  case done =>
   rintro D0 ys W hD hp ⟨hO, hB⟩ hK
   have hc := hB.cell
   gi_wp2
   refine ⟨by simp, .inl ⟨_, _, rfl, run_takeDeferred hK, ?_⟩⟩
   refine ⟨_, results_tmp rfl _ _ _, by rw [← hp]; rfl, ?_⟩
   exact (below_up bw bw.size b3).trans ((hO.put hD _).below (by have := b3.size; have := bw.size; omega) (fun x hx => by simp at hx; omega))
  case stop =>
   rintro D0 c pre W _ _ h _
   exact h.elim
end Go.Proofs.YtjlaffgbmcpldaaGreatDoor
