/-
  
-/
import Derived.Test.YtjlaffgbmcpldaaGreatDoorG13
import Derived.Test.YtjlaffgbmcpldaaGreatDoorG18
import Derived.Test.YtjlaffgbmcpldaaGreatDoorG27
import Derived.Test.YtjlaffgbmcpldaaGreatDoorG20
import Derived.Test.YtjlaffgbmcpldaaGreatDoorG23
import Derived.RangeFuncNested
import Derived.RangeFuncBound
import Derived.RangeFuncCalls
import Derived.RangeFuncLeaves
import Derived.RangeFuncBox
import Derived.RangeFuncStops
import Derived.Shelf.Abstract
import Derived.Shelf.RegionOpen
import Derived.WalkKit
import Derived.OwnWalkIn
import Derived.TacticsInMore
import Derived.LoopNIn
import Derived.LoopIn
import Derived.OrdersIn
import Derived.TacticsIn
import Derived.Test.YtjlaffgbmcpldaaGreatDoorG19
set_option linter.unusedVariables false
set_option linter.unusedSimpArgs false
namespace Go.Proofs.YtjlaffgbmcpldaaGreatDoor
namespace D
theorem lvn_liv (l : List Vn) : lvn l = liv l := rfl
theorem trm_zero (ps : List Nat) : trm ps [] = [] := rfl
def Sm.trim (M : Sm) (k : Ky) (ps : List Nat) : Sm := ⟨fun y => if y = k then trm ps (M.f y) else M.f y, if trm ps (M.f k) = [] then M.ks.filter (fun y => decide (y ≠ k)) else M.ks, M.last⟩
def Sm.went (M : Sm) (k : Ky) (ps : List Nat) : Nat := (M.f k).length - (trm ps (M.f k)).length
theorem Sm.trim_at (M : Sm) (k : Ky) (ps : List Nat) : (M.trim k ps).f k = trm ps (M.f k) := if_pos rfl
theorem Sm.trim_ne (M : Sm) {k y : Ky} (ps : List Nat) (h : y ≠ k) : (M.trim k ps).f y = M.f y := if_neg h
theorem Sm.trim_sub (M : Sm) (k : Ky) (ps : List Nat) : ∀ y ∈ (M.trim k ps).ks, y ∈ M.ks := fun y hy => by
 unfold Sm.trim at hy
 simp only at hy
 split at hy
 ·exact (List.mem_filter.1 hy).1
 ·exact hy
theorem Sm.trim_ks {M : Sm} (h : M.wf) {k : Ky} (ps : List Nat) {y : Ky} (hy : y ≠ k) : y ∈ (M.trim k ps).ks ↔ y ∈ M.ks := by
 unfold Sm.trim
 simp only
 split
 ·simp [List.mem_filter, hy]
 ·exact Iff.rfl
theorem Sm.trim_mem {M : Sm} (h : M.wf) (k : Ky) (ps : List Nat) (y : Ky) : y ∈ (M.trim k ps).ks ↔ (M.trim k ps).f y ≠ [] := by
 by_cases e : y = k
 ·subst e
  rw [Sm.trim_at]
  unfold Sm.trim
  simp only
  split
  ·rename_i h1; simp [h1]
  ·rename_i h1
   constructor
   ·intro _; exact h1
   ·intro _
    refine (h.mem y).2 fun e => h1 ?_
    rw [e]; rfl
 ·rw [Sm.trim_ks h ps e, Sm.trim_ne M ps e, h.mem]
theorem Sm.trim_wf {M : Sm} (h : M.wf) (k : Ky) (ps : List Nat) : (M.trim k ps).wf := by
 refine ⟨?_, Sm.trim_mem h k ps, fun y => ?_, fun y v hv => ?_⟩
 ·unfold Sm.trim
  simp only
  split
  ·exact h.up.filter _
  ·exact h.up
 ·by_cases e : y = k
  ·subst e; rw [Sm.trim_at]; exact (h.srt y).trm ps
  ·rw [Sm.trim_ne M ps e]; exact h.srt y
 ·by_cases e : y = k
  ·subst e; rw [Sm.trim_at] at hv; exact h.vw y v ((trm_sub ps _).subset hv)
  ·rw [Sm.trim_ne M ps e] at hv; exact h.vw y v hv
theorem Sm.trim_liv {M : Sm} (h : M.wf) (k : Ky) (ps : List Nat) (y : Ky) : lvn ((M.trim k ps).f y) = lvn (M.f y) := by
 by_cases e : y = k
 ·subst e; rw [Sm.trim_at, lvn_liv, lvn_liv, trm_liv (h.srt y)]
 ·rw [Sm.trim_ne M ps e]
theorem Sm.trim_live {M : Sm} (h : M.wf) (k : Ky) (ps : List Nat) : (M.trim k ps).live = M.live := by
 have h1 : (M.trim k ps).live = (M.trim k ps).ks.countP fun y => lvn (M.f y) := List.countP_congr fun y _ => by rw [Sm.trim_liv h k ps y]
 rw [h1]
 unfold Sm.live Sm.trim
 simp only
 split
 ·rename_i h2
  have h3 : lvn (M.f k) = false := by
   have := trm_liv (h.srt k) ps
   rw [h2] at this
   rw [lvn_liv, ← this]; rfl
  rw [List.countP_filter]
  refine List.countP_congr fun y _ => ?_
  by_cases e : y = k
  ·subst e; simp [h3]
  ·simp [e]
 ·rfl
theorem Sm.trim_id {M : Sm} (h : M.wf) {k : Ky} (ps : List Nat) (hk : k ∉ M.ks) : M.trim k ps = M := by
 have e := h.none hk
 unfold Sm.trim
 rw [e, trm_zero, if_pos rfl]
 obtain ⟨f, ks, last⟩ := M
 simp only at hk e ⊢
 congr 1
 ·funext y
  by_cases h1 : y = k
  ·subst h1; rw [if_pos rfl, e]; rfl
  ·rw [if_neg h1]
 ·refine List.filter_eq_self.2 fun y hy => ?_
  simp only [ne_eq, decide_not, Bool.not_eq_true', decide_eq_false_iff_not]
  exact fun e => hk (e ▸ hy)
structure Sw where
 M : Sm
 at_ : Ky
 rn : Nat
 gn : Nat
def Sw.step (S : Sw) (ps : List Nat) : Sw := match S.M.nxt S.at_ with
 | none => ⟨S.M, zK, S.rn + 1, S.gn⟩
 | some k => ⟨S.M.trim k ps, k, S.rn, S.gn + S.M.went k ps⟩
def Sw.many (S : Sw) (ps : List Nat) : Nat := match S.M.nxt S.at_ with
 | none => 0
 | some k => S.M.went k ps
structure Alk (ps : List Nat) (L : Nat) (l m : List Vn) : Prop where
 sn : ∀ t, t ∈ ps ∨ L ≤ t → (seen l t).d = (seen m t).d ∧ (seen l t).r = (seen m t).r
 nw : ∀ t, t ∈ ps ∨ L ≤ t → (t < nwt l ↔ t < nwt m)
 lv : liv l = liv m
theorem Alk.refl (ps : List Nat) (L : Nat) (l : List Vn) : Alk ps L l l := ⟨fun _ _ => ⟨rfl, rfl⟩, fun _ _ => Iff.rfl, rfl⟩
theorem Alk.trans {ps : List Nat} {L : Nat} {l m n : List Vn} (h : Alk ps L l m) (k : Alk ps L m n) : Alk ps L l n :=
 ⟨fun t ht => ⟨(h.sn t ht).1.trans (k.sn t ht).1, (h.sn t ht).2.trans (k.sn t ht).2⟩, fun t ht => (h.nw t ht).trans (k.nw t ht), h.lv.trans k.lv⟩
theorem Alk.trm {ps : List Nat} {L : Nat} {l : List Vn} (h : Srt l) (hl : nwt l ≤ L) : Alk ps L (trm ps l) l := by
 refine ⟨fun t ht => ?_, fun t ht => ?_, trm_liv h ps⟩
 ·rcases ht with ht | ht
  ·exact trm_seen h ht
  ·exact trm_late h ps (by omega)
 ·rcases ht with ht | ht
  ·exact trm_above h ht
  ·have := nwt_trm_le h ps
   omega
structure Als (ps : List Nat) (M A : Sm) : Prop where
 f : ∀ k, Alk ps A.last (M.f k) (A.f k)
 last : M.last = A.last
 wf : M.wf
theorem Als.refl (ps : List Nat) {A : Sm} (h : A.wf) : Als ps A A := ⟨fun k => Alk.refl _ _ _, rfl, h⟩
theorem Als.trim {ps : List Nat} {M A : Sm} (h : Als ps M A) (k : Ky) : Als ps (M.trim k ps) A := by
 refine ⟨fun y => ?_, h.last, Sm.trim_wf h.wf k ps⟩
 by_cases e : y = k
 ·subst e
  rw [Sm.trim_at]
  exact (Alk.trm (h.wf.srt y) (by rw [← h.last]; exact h.wf.nwt y)).trans (h.f y)
 ·rw [Sm.trim_ne M ps e]; exact h.f y
theorem Als.step {ps : List Nat} {S : Sw} {A : Sm} (h : Als ps S.M A) : Als ps (S.step ps).M A := by
 unfold Sw.step
 split
 ·exact h
 ·exact h.trim _
theorem Als.live {ps : List Nat} {M A : Sm} (h : Als ps M A) (hA : A.wf) : M.live = A.live := by
 have key : ∀ (X : Sm), X.wf → X.live = (X.ks.filter fun k => lvn (X.f k)).length := fun X _ => by unfold Sm.live; rw [List.countP_eq_length_filter]
 rw [key M h.wf, key A hA]
 congr 1
 refine Kup.ext (h.wf.up.filter _) (hA.up.filter _) fun k => ?_
 simp only [List.mem_filter]
 have e : lvn (M.f k) = lvn (A.f k) := (h.f k).lv
 rw [e]
 constructor
 ·rintro ⟨_, c⟩
  refine ⟨(hA.mem k).2 fun e => ?_, c⟩
  rw [e] at c; cases c
 ·rintro ⟨_, c⟩
  refine ⟨(h.wf.mem k).2 fun e2 => ?_, c⟩
  rw [← e, e2] at c; cases c
theorem zK_lt {k : Ky} (h : k ≠ zK) : Cr.lt zK k = true := by
 refine Cr.lt_tot h ?_
 cases hl : Cr.lt k zK with
 | false => rfl
 | true =>
  obtain ⟨d, hd, _, _, h4⟩ := Cr.lt_iff.1 hl
  exfalso
  have : Cr.Bits.bt zK d = false := by
   rw [bt_def]
   unfold kbt
   have : zK.l.getD (d / 8) 0 = 0 := by
    show (List.replicate 25 0).getD (d / 8) 0 = 0
    rw [List.getD_eq_getElem?_getD, List.getElem?_replicate]
    split <;> rfl
   rw [this, Nat.zero_testBit]
  rw [this] at h4; cases h4
structure Rd (M0 M : Sm) (a : Ky) (ps : List Nat) (rest : List Ky) : Prop where
 wf : M.wf
 last : M.last = M0.last
 up : Kup rest
 ab : ∀ y ∈ M.ks, Cr.lt a y = true ↔ y ∈ rest
 inn : ∀ y ∈ rest, y ∈ M.ks
 old : ∀ y, y ∈ rest → M.f y = M0.f y
 new : ∀ y, y ∉ rest → M.f y = trm ps (M0.f y)
 wf0 : M0.wf
theorem Rd.nxt {M0 M : Sm} {a : Ky} {ps : List Nat} {rest : List Ky} (h : Rd M0 M a ps rest) : M.nxt a = rest.head? := by
 have e : M.ks.filter (fun y => Cr.lt a y) = rest := Kup.ext (h.wf.up.filter _) h.up fun y => by
  rw [List.mem_filter]
  constructor
  ·rintro ⟨h1, h2⟩; exact (h.ab y h1).1 h2
  ·intro h1; exact ⟨h.inn y h1, (h.ab y (h.inn y h1)).2 h1⟩
 rw [← e, Sm.nxt, List.head?_filter]
theorem Rd.next {M0 M : Sm} {a k : Ky} {ps : List Nat} {rest : List Ky} (h : Rd M0 M a ps (k :: rest)) : Rd M0 (M.trim k ps) k ps rest := by
 have hne := h.up.ne
 have hk : k ∉ rest := fun e => hne k e rfl
 have hu := List.pairwise_cons.1 h.up
 have hak : Cr.lt a k = true := (h.ab k (h.inn k (by simp))).2 (by simp)
 refine ⟨Sm.trim_wf h.wf k ps, h.last, hu.2, fun y hy => ?_, fun y hy => ?_, fun y hy => ?_, fun y hy => ?_, h.wf0⟩
 ·have h1 := Sm.trim_sub M k ps y hy
  constructor
  ·intro h2
   have h3 := (h.ab y h1).1 (Cr.lt_trans hak h2)
   rcases List.mem_cons.1 h3 with e | h3
   ·subst e; rw [Cr.lt_irr] at h2; cases h2
   ·exact h3
  ·intro h2; exact hu.1 y h2
 ·exact (Sm.trim_ks h.wf ps (hne y hy)).2 (h.inn y (by simp [hy]))
 ·rw [Sm.trim_ne M ps (hne y hy)]; exact h.old y (by simp [hy])
 ·by_cases e : y = k
  ·subst e; rw [Sm.trim_at, h.old y (by simp)]
  ·rw [Sm.trim_ne M ps e]; exact h.new y (by simp [e, hy])
theorem Rd.done {M0 M : Sm} {a : Ky} {ps : List Nat} (h : Rd M0 M a ps []) (k : Ky) : M.f k = trm ps (M0.f k) := h.new k (by simp)
theorem Rd.went {M0 M : Sm} {a k : Ky} {ps : List Nat} {rest : List Ky} (h : Rd M0 M a ps (k :: rest)) : M.went k ps = M0.went k ps := by
 unfold Sm.went
 rw [h.old k (by simp)]
end D
end Go.Proofs.YtjlaffgbmcpldaaGreatDoor
set_option maxRecDepth 100000
namespace Go.Proofs.YtjlaffgbmcpldaaGreatDoor
open Go.RowKit
section
variable {P : Program} {Q : Exit → Act → World → Prop} {n l : Nat}
end
structure Kq (n0 : Nat) (X : List Nat) (W W' : World) : Prop where
 sz : W.heap.size ≤ W'.heap.size
 old : ∀ g : Nat, g < n0 → g ∉ X → W'.heap[g]? = W.heap[g]?
theorem Kq.trans {n0 : Nat} {X : List Nat} {A B C : World} (h : Kq n0 X A B) (k : Kq n0 X B C) : Kq n0 X A C :=
 ⟨Nat.le_trans h.sz k.sz, fun g h1 h2 => (k.old g h1 h2).trans (h.old g h1 h2)⟩
theorem Kq.refl (n0 : Nat) (X : List Nat) (W : World) : Kq n0 X W W := ⟨Nat.le_refl _, fun _ _ _ => rfl⟩
theorem Kq.put {n0 : Nat} {X : List Nat} (W : World) (l : Nat) (o o' : Obj) (hl : n0 ≤ l) (h : W.heap[l]? = some o) (ho : o.isCells = false) : Kq n0 X W (W.putObj l o') :=
 ⟨by simp [World.putObj], fun g hg _ => World.putObj_heap_other (by omega)⟩
theorem Kq.below {n0 : Nat} {X : List Nat} {W W' : World} (hb : Below W.heap.size W W') (hn : n0 ≤ W.heap.size) : Kq n0 X W W' :=
 ⟨hb.size, fun g hg _ => hb.block g (by omega)⟩
theorem Kq.set {n0 : Nat} {X : List Nat} (W : World) (g : Nat) (o : Nat) (v : Value) (hx : g ∈ X) : Kq n0 X W (W.setCell ⟨g, o, none⟩ v) :=
 ⟨by simp [World.setCell], fun q _ hq => Below.heap_setCell W ⟨g, o, none⟩ v q (fun e => hq (by subst e; exact hx))⟩
theorem Kq.grown {n0 : Nat} {X : List Nat} {W W' : World} {row : Option Nat} (hn : n0 ≤ W.heap.size) (hg : W.grownBy W' row) (hr : ∀ r, row = some r → n0 ≤ r) : Kq n0 X W W' :=
 ⟨hg.size, fun g h1 h2 => hg.block g (by omega) (fun e => by have := hr g e.symm; omega)⟩
theorem u64_under : Tryz.prog.underlying 92 = some (.slice 42) := by kernel_rfl
theorem u64_info : (Tryz.prog.info? 42).map (fun i => (i.zero, i.size, i.bytes)) = some (some (.int .u64 0), 1, 8) := by kernel_rfl
end Go.Proofs.YtjlaffgbmcpldaaGreatDoor
namespace Go.Proofs.YtjlaffgbmcpldaaGreatDoor
open Go.RowKit Go.Shelf
attribute [local go_sem] Oper.semAt_some
attribute [local go_sem ↓] Go.wp_at_zero Go.wp_at_succ ld_v lv_v st_v ne_v bd_v bs_v ld_w lv_w st_w ne_w bd_w bs_w ld_rh ld_d lv_rh lv_d st_r st_d ne_rh eq_rh ne_d bd_rh bd_d
attribute [local go_sem] run_ldv run_lvv run_stv run_nev run_bdv_z run_bdv_d run_bdv_r run_bsv1 run_bsv0 run_ldw run_lvw run_stw run_new run_bdw_3 run_bsw1 run_bsw0 run_ldrh run_ldd run_lvrh run_lvd run_str run_std run_nerh run_eqrh run_ned run_bdr0 run_bdd0 run_bdr1 run_bdd1 run_bdd9 Shp.rd_new Shp.rd_old Shp.rd_drew Shp.rd_drewN Shp.rd_set Shp.tn_new Shp.tn_old Shp.tn_drew Shp.tn_drewN setRow_alloc
set_option maxHeartbeats 4000000 in
theorem vals_in (n : Nat) (hn : 3 ≤ n) (m : Nat) (hm : m ≤ 1000) (l Bp : Nat) (A : Option Addr) (c : Nat) (xs : List Nat) (n0 : Nat) (X : List Nat) (J Jx : List Nat → World → Prop)
  (W : World) (hb : W.cell? ⟨Bp, 0, none⟩ = some (.slice A m c)) (hr : Row W A m (wds xs)) (hX : ∀ ad, A = some ad → 0 < m → ad.block < n0 ∧ ad.block ∉ X) (h0n : n0 ≤ W.heap.size)
  (hA : AbidesFrom W.heap.size J)
  (hY : ∀ pre (y : Nat) W1, J pre W1 → pre.length < xs.length → YieldAt Fence.wide (n - 1) Tryz.prog l #[.int .u64 (y : Nat)] W1 fun e W' =>
   (e = .returned (.bool true) ∧ J (pre ++ [y]) W' ∧ Kq n0 X W1 W') ∨ (e = .returned (.bool false) ∧ Jx (pre ++ [y]) W'))
  (h0 : J [] W) :
  CallsIn Fence.wide n Tryz.prog 218 #[.func (.yield l) #[] #[], .pointer (some ⟨Bp, 0, none⟩)] W fun e W' => (∃ v, e = .returned v) ∧ ((∃ ys : List Nat, ys = xs ∧ J ys W') ∨ (∃ pre, Jx pre W')) := by
 have HY := Lib.hid hY
 have HA := Lib.hid hA
 have HR := Lib.hid hr
 have HX := Lib.hid hX
 have hlen : xs.length = m := by have := hr.len; rwa [wds_len] at this
 clear hY hA hr hX
 have hn1 : 1 ≤ n - 1 := by omega
 refine callsIn_of_wp Tryz.func218 rfl trivial ?_ rfl
 simp only [Tryz.ntmps218, List.size_toArray, List.length_cons, List.length_nil, Nat.reduceAdd, Nat.reduceSub, Array.replicate_succ, Array.replicate_zero, List.push_toArray, List.append_toArray, List.nil_append, List.cons_append]
 gi_wp2
 gi_loopw [7] (fun s wr => ∃ (j : Nat), j ≤ m ∧ s = .int .i64 j ∧ Kq n0 X W wr ∧ J (xs.take j) wr) (fun s _ => m - (intOf s).toNat)
 case atStart => exact ⟨0, Nat.zero_le _, rfl, Kq.refl _ _ _, by simpa using h0⟩
 case round =>
  obtain ⟨j, hj, rfl, hk, hJ⟩ := hrel
  by_cases hlt : j < m
  ·obtain ⟨y, hy⟩ : ∃ y, xs[j]? = some y := ⟨_, List.getElem?_eq_getElem (by omega)⟩
   obtain ⟨ad, hAe, hc⟩ := HR.out.cell (wds_at hy)
   obtain ⟨hx1, hx2⟩ := HX.out ad hAe (by omega)
   subst hAe
   have hc2 : wr.cell? (ad.add j) = some (.int .u64 (y : Nat)) := (World.cell?_of_block (hk.old _ (by rw [block_of_add]; exact hx1) (by rw [block_of_add]; exact hx2))).trans hc
   have i0 : (0 : Int) ≤ (j : Int) := by omega
   have i1 : (j : Int) < (m : Int) := by omega
   have hlen2 : (xs.take j).length < xs.length := by simp; omega
   obtain ⟨fn, tmps, assign, body, hyd, hR⟩ := HY.out (xs.take j) y wr hJ hlen2
   have HT : Kept (xs.take j ++ [y] = xs.take (j + 1)) := ⟨by rw [List.take_add_one, hy]; rfl⟩
   clear hc hy hlen2 hJ
   gi_wp2
   refine ⟨fun _ => by omega, hR.mono ?_⟩
   rintro e W3 (⟨rfl, hJ4, hk3⟩ | ⟨rfl, hJx3⟩)
   ·gi_wp2
    go_roundw
    case rel => exact ⟨j + 1, hlt, by go_num, hk.trans hk3, by rw [← HT.out]; exact hJ4⟩
    case measure => simp [intOf]; omega
   ·gi_wp2
    refine bodyPost_ret (results_none rfl _ _ _) rfl ?_
    exact ⟨⟨_, rfl⟩, .inr ⟨_, hJx3⟩⟩
  ·have hjm : j = m := by omega
   have hT : xs.take j = xs := List.take_of_length_le (by omega)
   rw [hT] at hJ
   gi_wp2
   go_end0
   exact ⟨⟨_, rfl⟩, .inl ⟨xs, rfl, hJ⟩⟩
theorem vals_stops (n : Nat) (hn : 3 ≤ n) (m : Nat) (hm : m ≤ 1000) (Bp : Nat) (A : Option Addr) (c : Nat) (xs : List Nat) (n0 : Nat) (X : List Nat) (w : World) (hb : w.cell? ⟨Bp, 0, none⟩ = some (.slice A m c)) (hr : Row w A m (wds xs)) (hX : ∀ ad, A = some ad → 0 < m → ad.block < n0 ∧ ad.block ∉ X) (h0n : n0 ≤ w.heap.size) :
  SeqStopsK Fence.wide n Tryz.prog 218 #[.pointer (some ⟨Bp, 0, none⟩)] (fun y : Nat => #[.int .u64 (y : Nat)]) (Kq n0 X) (fun ys => ys = xs) (fun _ => True) xs.length w := fun l J Jx W hW hJ _ hY h0 =>
 (vals_in n hn m hm l Bp A c xs n0 X J Jx W (cell_kept_ hW hb) (hr.on hW) hX (Nat.le_trans h0n hW.size) hJ hY h0).mono fun e W' ⟨h1, h2⟩ => ⟨h1, h2.elim .inl fun ⟨pre, h⟩ => .inr ⟨pre, trivial, h⟩⟩
set_option maxHeartbeats 8000000 in
theorem apps_anyh (Bp : Nat) (A0 : Option Addr) (m c0 : Nat) (xs : List Nat) (w : World) (hb : w.cell? ⟨Bp, 0, none⟩ = some (.slice A0 m c0)) (hr : Row w A0 m (wds xs)) (hz : m ≤ 1000) : Calls Tryz.prog 140 #[.slice none 0 0, .func (.func 218) #[] #[.pointer (some ⟨Bp, 0, none⟩)]] w fun e w' => ∃ (A : Option Addr) (c : Nat), e = .returned (.slice A xs.length c) ∧ Ow 42 1 w.heap.size w' A xs.length c (wds xs) ∧ Below w.heap.size w w' := by
 have hz' : xs.length ≤ 1000 := by have := hr.len; rw [wds_len] at this; omega
 refine (callsIn_wide (n := 10)).1 ?_
 refine callsIn_of_wp_marks Tryz.func140 rfl trivial ?_ rfl
 simp only [Tryz.ntmps140, List.size_toArray, List.length_cons, List.length_nil, Nat.reduceAdd, Nat.reduceSub, Array.replicate_succ, Array.replicate_zero, List.push_toArray, List.append_toArray, List.nil_append, List.cons_append]
 gi_wp2
 have hB := Blk.new w 92 #[.slice none 0 0]
 have hbel : Below w.heap.size w (w.alloc (.cells #[.slice none 0 0] 92)) := below_alloc_ _ _
 have hb3 := cell_kept_ hbel hb
 have hr3 := hr.on hbel
 have hX : ∀ ad, A0 = some ad → 0 < m → ad.block < (w.alloc (.cells #[.slice none 0 0] 92)).heap.size ∧ ad.block ∉ [w.heap.size] := fun ad e h => by
  obtain ⟨ad', e', hl, _⟩ := hr.tow h
  rw [e] at e'; injection e' with e'; subst e'
  exact ⟨by simp; omega, by simp; omega⟩
 obtain ⟨gb, hgb⟩ : ∃ gb, w.heap.size = gb := ⟨_, rfl⟩
 obtain ⟨w3, hw3⟩ : ∃ w3, w.alloc (.cells #[.slice none 0 0] 92) = w3 := ⟨_, rfl⟩
 have hz3 : w3.heap.size = gb + 1 := by rw [← hw3, ← hgb]; simp
 rw [hw3, hgb] at hX
 rw [hw3] at hB hbel hb3 hr3
 rw [hgb] at hB hbel ⊢
 try rw [hw3]
 try rw [hgb]
 have HZ3 := Lib.hid hz3
 have HBEL := Lib.hid hbel
 clear hw3 hb hz3 hbel hr
 refine wpIn_rangeFunc_ownH rfl (by decide) (gf := 218) (lb := #[.pointer (some ⟨Bp, 0, none⟩)]) rfl trivial (enters_of Tryz.func218 (by kernel_rfl) rfl)
  (vals_stops 9 (by decide) m hz Bp A0 c0 xs w3.heap.size [gb] w3 hb3 hr3 hX (Nat.le_refl _)) (fun h k => h.trans k) (fun W l o o' h1 h2 h3 _ => Kq.put W l o o' h1 h2 h3) (Below.refl _ _) (fun _ => rfl)
  (fun pre W => Ov w3.heap.size [gb] w3 W ∧ ∃ A c, Blk W gb 92 #[.slice A pre.length c] ∧ Ow 42 1 w3.heap.size W A pre.length c (wds pre)) (fun _ _ _ => False)
  (fun s W W' row hs hg hr => ⟨hs.1.grown (Nat.le_refl _) hg fun r e => .inl (hr r e).1, let ⟨A, c, h1, h2⟩ := hs.2; ⟨A, c, (blk_own (fun _ : List Nat => #[.slice A s.length c])) s W W' row h1 hg hr, ow_own h2 hg hr⟩⟩) (fun _ _ _ _ _ hs _ _ => hs) ⟨Ov.refl _ _ _, none, 0, hB, Ow.nil _ 1 (Nat.le_refl _)⟩
  (fun y a' W => a' = { tmps := #[.slice none 0 0, .func (.func 218) #[] #[.pointer (some ⟨Bp, 0, none⟩)], .pointer (some ⟨gb, 0, none⟩), undef, .slice none 0 0, .int .u64 (y : Nat), .func (.func 218) #[] #[.pointer (some ⟨Bp, 0, none⟩)], .int .u64 (y : Nat), undef, undef, undef, undef, undef], defers := [] })
  (fun y a' s W W' row h3 hg hr => h3) ?assign ?body ?done ?stop
 case assign =>
  rintro l pre y W K ⟨hO, A, c, h1, h2⟩ hK
  gi_wp2
  exact hK _ _ (KeepsOthers.refl _ |>.from _) (Kq.refl _ _ _) ⟨hO, A, c, h1, h2⟩ rfl
 case body =>
  rintro l pre y a' W hl ⟨r, hr⟩ ⟨hO, A, c, hBs, hOw⟩ rfl hlt
  have hc := hBs.cell
  have hf := hBs.free
  gi_wp2_with (gi_at_builtin; refine gappIn _ u64_under u64_info rfl (by decide) (by decide) rfl (.tmp 8) (.tmp 10) rfl rfl (hOw.alloc (.cells #[.int .u64 (y : Nat)] 42)) rfl (rw_new W 1 42 1 #[.int .u64 (y : Nat)] rfl) (by intro u hu; simp at hu; subst hu; rfl) (by omega) ?_; intro A1 c1 w1 ho1 hg1; have hb1 := (hBs.alloc (.cells #[.int .u64 (y : Nat)] 42)).grown hg1 (fun e => by have := (hOw.lt _ e.symm).1; have := HZ3.out; omega); have hc1 := hb1.cell; have hf1 := hb1.free)
  have hsz := hO.size
  have hz1 := hg1.size
  have hlp : (pre ++ [y]).length = pre.length + 1 := by simp
  have hoc := ow_cells (hOw.alloc (.cells #[.int .u64 (y : Nat)] 42))
  have hO1 : Ov w3.heap.size [gb] w3 w1 := (hO.on (Nat.le_refl _) (below_alloc_ W _)).grown (Nat.le_refl _) hg1 (fun r e => .inl (hOw.lt r e).1)
  refine ⟨?_, ?_, hO1.set (by simp) _, A1, c1, ?_, ?_⟩
  ·exact (((KeepsOthers.alloc W _).trans (KeepsOthers.of_grownBy hg1 fun j o e h => (hoc j o e h).1)).trans (KeepsOthers.setCell _ _ _)).from _
  ·refine ((Kq.below (below_alloc_ W (.cells #[.int .u64 (y : Nat)] 42)) hsz).trans (Kq.grown (by simp; omega) hg1 fun r e => (hOw.lt r e).1)).trans (Kq.set _ _ _ _ (by simp))
  ·rw [hlp]; exact hb1.set_ _
  ·rw [hlp, show wds (pre ++ [y]) = wds pre ++ [.int .u64 (y : Nat)] by simp [wds]]
   exact ho1.kept (by simp [World.setCell]) (fun g e => Below.heap_setCell _ _ _ g (by have := (ho1.lt g e).1; have := HZ3.out; show g ≠ gb; omega))
 case done =>
  rintro D0 ys W hD rfl ⟨hO, A, c, hB2, hOw⟩ hK
  have hc := hB2.cell
  have hfin := HBEL.out.trans ((hO.put hD (.deferred none)).below (b := gb) (by have := HZ3.out; omega) (fun x hx => by simp at hx; omega))
  gi_wp2
  refine ⟨by simp, .inl ⟨_, _, rfl, run_takeDeferred hK, ?_⟩⟩
  rw [← hgb] at hfin
  refine ⟨_, results_tmp rfl _ _ _, A, c, rfl, ow_base (hOw.kept (by simp [World.putObj]) (fun g e => World.putObj_heap_other (fun e' => by subst e'; have := (ow_cells hOw g _ e hK).1; cases this))) (by have := HZ3.out; omega), by first | exact hfin | (rw [hgb]; exact hfin)⟩
 case stop =>
  rintro D0 c pre W _ _ h _
  exact h.elim
set_option maxHeartbeats 2000000 in
theorem coll_any (Bp : Nat) (A0 : Option Addr) (m c0 : Nat) (xs : List Nat) (w : World) (hb : w.cell? ⟨Bp, 0, none⟩ = some (.slice A0 m c0)) (hr : Row w A0 m (wds xs)) (hz : m ≤ 1000) : Calls Tryz.prog 111 #[.func (.func 218) #[] #[.pointer (some ⟨Bp, 0, none⟩)]] w fun e w' => ∃ (A : Option Addr) (c : Nat), e = .returned (.slice A xs.length c) ∧ Ow 42 1 w.heap.size w' A xs.length c (wds xs) ∧ Below w.heap.size w w' := by
 have CA := Lib.hid (apps_anyh Bp A0 m c0 xs w hb hr hz)
 go_enter Tryz.func111, Tryz.ntmps111
 go_wp2_with (go_at_call 140; (with_reducible refine CA.out.mono ?_); rintro e w1 ⟨A, c, rfl, ho, hb1⟩)
 go_ret
 exact ⟨A, c, rfl, ho, hb1⟩
theorem values_any (A : Option Addr) (n c : Nat) (w : World) : Calls Tryz.prog 201 #[.slice A n c] w fun e w' => e = .returned (.func (.func 218) #[] #[.pointer (some ⟨w.heap.size, 0, none⟩)]) ∧ w' = w.alloc (.cells #[.slice A n c] 92) := by
 go_enter Tryz.func201, Tryz.ntmps201
 go_wp2
 go_ret
 exact ⟨rfl, rfl⟩
end Go.Proofs.YtjlaffgbmcpldaaGreatDoor
namespace Go.Proofs.YtjlaffgbmcpldaaGreatDoor
open Go.RowKit Go.Shelf
attribute [local go_sem ↓] Go.wp_at_zero Go.wp_at_succ ld_v lv_v st_v ne_v bd_v bs_v ld_w lv_w st_w ne_w bd_w bs_w ld_rh ld_d lv_rh lv_d st_r st_d ne_rh eq_rh ne_d bd_rh bd_d
attribute [local go_sem] run_ldv run_lvv run_stv run_nev run_bdv_z run_bdv_d run_bdv_r run_bsv1 run_bsv0 run_ldw run_lvw run_stw run_new run_bdw_3 run_bsw1 run_bsw0 run_ldrh run_ldd run_lvrh run_lvd run_str run_std run_nerh run_eqrh run_ned run_bdr0 run_bdd0 run_bdr1 run_bdd1 run_bdd9 Shp.rd_new Shp.rd_old Shp.rd_drew Shp.rd_drewN Shp.rd_set Shp.tn_new Shp.tn_old Shp.tn_drew Shp.tn_drewN setRow_alloc Shp.rd_extk cell_ext
theorem nan1_any (x : Nat) (w : World) : Calls Tryz.prog 190 #[.int .u64 (x : Nat)] w fun e w' => e = .returned (.bool false) ∧ w' = w := by
 go_enter Tryz.func190, Tryz.ntmps190
 go_wp2
 go_ret
 exact ⟨by simp, rfl⟩
theorem nan2_any (x : Nat) (w : World) : Calls Tryz.prog 219 #[.int .u64 (x : Nat)] w fun e w' => e = .returned (.bool false) ∧ w' = w := by
 go_enter Tryz.func219, Tryz.ntmps219
 go_wp2
 go_ret
 exact ⟨by simp, rfl⟩
theorem less_any (x y : Nat) (w : World) : Calls Tryz.prog 172 #[.int .u64 (x : Nat), .int .u64 (y : Nat)] w fun e w' => e = .returned (.bool (decide (x < y))) ∧ w' = w := by
 go_enter Tryz.func172, Tryz.ntmps172
 go_wp2_with (go_at_call 190; (with_reducible refine (nan1_any _ _).mono ?_); rintro e w' ⟨rfl, rfl⟩)
 go_ret
 exact ⟨by simp, rfl⟩
structure Ar (w : World) (g c : Nat) (ys : List Nat) : Prop where
 ex : ∃ cur, Blk w g 42 cur ∧ cur.size = c ∧ ys.length ≤ c ∧ cur.toList.take ys.length = wds ys
theorem Ar.get {w : World} {g c i y : Nat} {ys : List Nat} (h : Ar w g c ys) (hy : ys[i]? = some y) : w.cell? ⟨g, i, none⟩ = some (.int .u64 (y : Nat)) := by
 obtain ⟨cur, hB, h1, h2, h3⟩ := h.ex
 have hi := (List.getElem?_eq_some_iff.1 hy).1
 rw [hB.c]
 have := congrArg (fun q => q[i]?) h3
 simp only [List.getElem?_take, if_pos hi, wds_at hy, Array.getElem?_toList] at this
 exact this
theorem Ar.free {w : World} {g c : Nat} {ys : List Nat} (h : Ar w g c ys) (i : Nat) : w.frozen? ⟨g, i, none⟩ = false := by
 obtain ⟨cur, hB, _⟩ := h.ex
 exact hB.f i
theorem Ar.set {w : World} {g c : Nat} {ys : List Nat} (h : Ar w g c ys) (i : Nat) (z : Nat) : Ar (w.setCell ⟨g, i, none⟩ (.int .u64 (z : Nat))) g c (ys.set i z) := by
 obtain ⟨cur, hB, h1, h2, h3⟩ := h.ex
 refine ⟨_, hB.put i _, by simpa using h1, by simpa using h2, ?_⟩
 rw [List.length_set, Array.toList_setIfInBounds, List.take_set, h3]
 simp [wds, List.map_set]
theorem Ar.on {w w' : World} {g c : Nat} {ys : List Nat} (h : Ar w g c ys) (hb : Below w.heap.size w w') : Ar w' g c ys := by
 obtain ⟨cur, hB, r⟩ := h.ex
 exact ⟨cur, hB.on hb, r⟩
theorem Ar.lt {w : World} {g c : Nat} {ys : List Nat} (h : Ar w g c ys) : g < w.heap.size := by
 obtain ⟨cur, hB, _⟩ := h.ex
 exact hB.lt
theorem ow_ar {base n c : Nat} {w : World} {A : Option Addr} {xs : List Nat} (h : Ow 42 1 base w A n c (wds xs)) (hn : 0 < n) : ∃ g, A = some ⟨g, 0, none⟩ ∧ base ≤ g ∧ Ar w g c xs := by
 have hl : xs.length = n := by have := h.len; rw [wds_len] at this; omega
 rcases h.row.2 with ⟨_, h0⟩ | ⟨g, cap, cur, e, hg, hh, h1, h2, h3, h4⟩
 ·omega
 ·injection e with e1 e2 e3
  subst e1 e3
  exact ⟨g, rfl, hg, cur, ⟨hh⟩, by omega, by omega, by rw [hl]; simpa using h4⟩
theorem Ar.row {w : World} {g c : Nat} {ys : List Nat} (h : Ar w g c ys) : Row w (some ⟨g, 0, none⟩) ys.length (wds ys) :=
 ⟨by rw [wds_len], fun _ => ⟨_, rfl, h.lt, fun j u hu => by
  obtain ⟨y, hy⟩ : ∃ y, ys[j]? = some y := ⟨_, List.getElem?_eq_getElem (by have := (List.getElem?_eq_some_iff.1 hu).1; rwa [wds_len] at this)⟩
  rw [wds_at hy] at hu
  injection hu with hu
  subst hu
  have := h.get hy
  rwa [add_o, Nat.zero_add]⟩⟩
def swp (ys : List Nat) (j : Nat) : List Nat := (ys.set (j + 1) (ys.getD j 0)).set j (ys.getD (j + 1) 0)
theorem swp_len (ys : List Nat) (j : Nat) : (swp ys j).length = ys.length := by simp [swp]
theorem swp_get {ys : List Nat} {j : Nat} (hj : j + 1 < ys.length) (a : Nat) : (swp ys j).getD a 0 = if a = j then ys.getD (j + 1) 0 else if a = j + 1 then ys.getD j 0 else ys.getD a 0 := by
 simp only [swp, List.getD_eq_getElem?_getD, List.getElem?_set, List.length_set]
 by_cases h1 : a = j
 ·subst h1
  simp [show a < ys.length by omega]
 ·rw [if_neg (fun e => h1 e.symm), if_neg h1]
  by_cases h2 : a = j + 1
  ·subst h2
   simp [hj]
  ·rw [if_neg (fun e => h2 e.symm), if_neg h2]
theorem mem_getD {ys : List Nat} {x : Nat} : x ∈ ys ↔ ∃ a, a < ys.length ∧ ys.getD a 0 = x := by
 rw [List.mem_iff_getElem]
 constructor
 ·rintro ⟨i, hi, rfl⟩
  exact ⟨i, hi, by simp [List.getD_eq_getElem?_getD, hi]⟩
 ·rintro ⟨a, ha, rfl⟩
  exact ⟨a, ha, by simp [List.getD_eq_getElem?_getD, ha]⟩
theorem swp_mem {ys : List Nat} {j : Nat} (hj : j + 1 < ys.length) (x : Nat) : x ∈ swp ys j ↔ x ∈ ys := by
 rw [mem_getD, mem_getD, swp_len]
 constructor
 ·rintro ⟨a, ha, rfl⟩
  rw [swp_get hj]
  split
  ·exact ⟨j + 1, hj, rfl⟩
  ·split
   ·exact ⟨j, by omega, rfl⟩
   ·exact ⟨a, ha, rfl⟩
 ·rintro ⟨a, ha, rfl⟩
  by_cases h1 : a = j
  ·exact ⟨j + 1, hj, by rw [swp_get hj, if_neg (by omega), if_pos rfl, h1]⟩
  ·by_cases h2 : a = j + 1
   ·exact ⟨j, by omega, by rw [swp_get hj, if_pos rfl, h2]⟩
   ·exact ⟨a, ha, by rw [swp_get hj, if_neg h1, if_neg h2]⟩
def Rise (ys : List Nat) (i : Nat) : Prop := ∀ a b, a < b → b < i → ys.getD a 0 ≤ ys.getD b 0
def RiseBut (ys : List Nat) (i j : Nat) : Prop := ∀ a b, a < b → b ≤ i → b ≠ j → ys.getD a 0 ≤ ys.getD b 0
theorem Rise.but {ys : List Nat} {i : Nat} (h : Rise ys i) : RiseBut ys i i := fun a b h1 h2 h3 => h a b h1 (by omega)
theorem RiseBut.done0 {ys : List Nat} {i : Nat} (h : RiseBut ys i 0) : Rise ys (i + 1) := fun a b h1 h2 => h a b h1 (by omega) (by omega)
theorem RiseBut.done {ys : List Nat} {i j : Nat} (h : RiseBut ys i (j + 1)) (hle : ys.getD j 0 ≤ ys.getD (j + 1) 0) (hji : j + 1 ≤ i) : Rise ys (i + 1) := fun a b h1 h2 => by
 by_cases hb : b = j + 1
 ·subst hb
  by_cases ha : a = j
  ·subst ha; exact hle
  ·exact Nat.le_trans (h a j (by omega) (by omega) (by omega)) hle
 ·exact h a b h1 (by omega) hb
theorem RiseBut.swp {ys : List Nat} {i j : Nat} (h : RiseBut ys i (j + 1)) (hlt : ys.getD (j + 1) 0 < ys.getD j 0) (hji : j + 1 ≤ i) (hi : i < ys.length) : RiseBut (swp ys j) i j := fun a b h1 h2 h3 => by
 have hj : j + 1 < ys.length := by omega
 rw [swp_get hj, swp_get hj, if_neg h3]
 by_cases hb : b = j + 1
 ·rw [if_pos hb]
  by_cases ha : a = j
  ·rw [if_pos ha]; omega
  ·rw [if_neg ha, if_neg (by omega)]
   exact h a j (by omega) (by omega) (by omega)
 ·rw [if_neg hb]
  by_cases ha : a = j
  ·rw [if_pos ha]; exact h (j + 1) b (by omega) h2 hb
  ·rw [if_neg ha]
   by_cases ha2 : a = j + 1
   ·rw [if_pos ha2]; exact h j b (by omega) h2 hb
   ·rw [if_neg ha2]; exact h a b h1 h2 hb
structure Srtd (xs ys : List Nat) : Prop where
 len : ys.length = xs.length
 mem : ∀ x, x ∈ ys ↔ x ∈ xs
 rise : Rise ys ys.length
set_option maxHeartbeats 8000000 in
theorem ins_any (g n c : Nat) (xs : List Nat) (w : World) (h : Ar w g c xs) (hn : xs.length = n) (h12 : n ≤ 1000) :
  Calls Tryz.prog 166 #[.slice (some ⟨g, 0, none⟩) n c, .int .i64 0, .int .i64 (n : Nat)] w fun e w' => e = .returned (.tuple #[]) ∧ ∃ ys, Ar w' g c ys ∧ Srtd xs ys ∧ Only (fun i => i = g) w w' := by
 have HH := Lib.hid h
 have HN := Lib.hid hn
 clear h hn
 go_enter Tryz.func166, Tryz.ntmps166
 go_wp2_with fail
 go_loopw [6] (fun x wx => ∃ (i : Nat) (ys : List Nat), 1 ≤ i ∧ i ≤ n + 1 ∧ x = .int .i64 i ∧ Ar wx g c ys ∧ Only (fun i => i = g) w wx ∧ Kept (ys.length = n ∧ (∀ x, x ∈ ys ↔ x ∈ xs) ∧ Rise ys (min i n))) (fun x _ => n + 1 - (intOf x).toNat)
 case atStart => exact ⟨1, xs, Nat.le_refl _, by omega, rfl, HH.out, Only.self _ _, ⟨HN.out, fun _ => Iff.rfl, fun a b h1 h2 => by omega⟩⟩
 case round =>
  obtain ⟨i, ys, hi1, hi2, rfl, hA, hO, HK⟩ := hrel
  by_cases hlt : i < n
  ·go_wp2_with fail
   go_loopw [7] (fun x wx => ∃ (j : Nat) (zs : List Nat), j ≤ i ∧ x = .int .i64 j ∧ Ar wx g c zs ∧ Only (fun i => i = g) w wx ∧ Kept (zs.length = n ∧ (∀ x, x ∈ zs ↔ x ∈ xs) ∧ RiseBut zs i j)) (fun x _ => (intOf x).toNat)
   case atStart => exact ⟨i, ys, Nat.le_refl _, rfl, hA, hO, ⟨HK.out.1, HK.out.2.1, Rise.but (by have := HK.out.2.2; rwa [Nat.min_eq_left (by omega)] at this)⟩⟩
   case round =>
    clear hA hO
    obtain ⟨j, zs, hji, rfl, hA, hO, HJ⟩ := hrel
    cases j with
    | zero =>
     have hk := Lib.hid (show Ar wr g c zs ∧ Only (fun i => i = g) w wr from ⟨hA, hO⟩)
     clear hA hO
     go_wp2_with fail
     go_quiet (fail)
     go_wp2
     refine ⟨⟨i + 1, zs, by omega, by omega, by go_num, hk.out.1.on (below_dn (Below.refl _ _) _), hk.out.2.on (below_dn (Below.refl _ _) _), ⟨HJ.out.1, HJ.out.2.1, ?_⟩⟩, by simp [intOf]; omega⟩
     rw [Nat.min_eq_left (by omega)]
     exact RiseBut.done0 HJ.out.2.2
    | succ j =>
     obtain ⟨y1, hy1⟩ : ∃ y, zs[j + 1]? = some y := ⟨_, List.getElem?_eq_getElem (by have := HJ.out.1; omega)⟩
     obtain ⟨y0, hy0⟩ : ∃ y, zs[j]? = some y := ⟨_, List.getElem?_eq_getElem (by have := HJ.out.1; omega)⟩
     have g1 : zs.getD (j + 1) 0 = y1 := by simp [List.getD_eq_getElem?_getD, hy1]
     have g0 : zs.getD j 0 = y0 := by simp [List.getD_eq_getElem?_getD, hy0]
     have hk := Lib.hid (show Ar wr g c zs ∧ Only (fun i => i = g) w wr from ⟨hA, hO⟩)
     have c1 := hA.get hy1
     have c0 := hA.get hy0
     have hcw : Hid (∀ W, Below wr.heap.size wr W → W.cell? ⟨g, j + 1, none⟩ = some (.int .u64 (y1 : Nat)) ∧ W.cell? ⟨g, j, none⟩ = some (.int .u64 (y0 : Nat))) := fun W hW => ⟨(hA.on hW).get hy1, (hA.on hW).get hy0⟩
     have j0 : (0 : Int) ≤ (j : Int) := by omega
     have hwj : IntKind.i64.wrap (j : Int) = (j : Int) := IntWalk.i64_in _ (by omega)
     have j1 : (j : Int) < (n : Int) := by omega
     have j2 : (j : Int) + 1 < (n : Int) := by omega
     have j3 : (0 : Int) < (j : Int) + 1 := by omega
     have CL : Hid (∀ W : World, Calls Tryz.prog 172 #[.int .u64 (y1 : Nat), .int .u64 (y0 : Nat)] W fun e w' => e = .returned (.bool (decide (y1 < y0))) ∧ Below W.heap.size W w') := fun W => (less_any y1 y0 W).mono fun _ _ h => ⟨h.1, by rw [h.2]; exact Below.refl _ _⟩
     have glt := hA.lt
     clear hA hO hy1 hy0
     by_cases hl : y1 < y0
     ·rw [decide_eq_true hl] at CL
      have HR := Lib.hid (RiseBut.swp HJ.out.2.2 (by rw [g1, g0]; exact hl) hji (by have := HJ.out.1; omega))
      clear hl
      have G := Lib.hid (show zs.getD (j + 1) 0 = y1 ∧ zs.getD j 0 = y0 from ⟨g1, g0⟩)
      clear g1 g0
      go_wp2_with fail
      refine wp_region_ext (by kernel_rfl) (by kernel_rfl) ?_
      repeat (go_big_quiet_step ((go_at_call 172; with_reducible exact calls_ext (CL.out _))))
      refine wpQuiet_nil ?_
      intro w3 hw3
      have b3 := ext_to hw3
      clear hw3
      go_wp2_with fail
      obtain ⟨w4, hw4⟩ : ∃ w4, w3.drew = w4 := ⟨_, rfl⟩
      have b4 : Below w3.heap.size w3 w4 := by rw [← hw4]; exact (Below.refl _ _).drew
      have A4 := Lib.hid ((hk.out.1.on b3).on b4)
      obtain ⟨e1, e0⟩ := hcw.out w4 (below_up b3 b3.size b4)
      have f1 := A4.out.free (j + 1)
      have f0 := (A4.out.set (j + 1) y0).free j
      refine wp_region_noPanic ?_
      refine wp_region_held_drew (S := fun _ => True) (by kernel_rfl) trivial (fun sd => ?_)
      rw [hw4]
      clear c1 c0 hw4
      refine takeT 0 (some 33) ?vq0 ?hyq0 trivial ?restq0
      case hyq0 => (intro o ho W hW; simp only [gT, gS, gZ, sI] at ho; subst ho; (try dsimp only at hW); go_simp; try rfl)
      try simp only [Act.put, iT, iZ, iS]
      refine takeT 1 (some 34) ?vq1 ?hyq1 trivial ?restq1
      case hyq1 => (intro o ho W hW; simp only [gT, gS, gZ, sI] at ho; subst ho; (try dsimp only at hW); go_simp; try rfl)
      try simp only [Act.put, iT, iZ, iS]
      refine takeT 2 (some 35) ?vq2 ?hyq2 trivial ?restq2
      case hyq2 => (intro o ho W hW; simp only [gT, gS, gZ, sI] at ho; subst ho; (try dsimp only at hW); go_simp; try rfl)
      try simp only [Act.put, iT, iZ, iS]
      refine takeT 3 (some 36) ?vq3 ?hyq3 trivial ?restq3
      case hyq3 => (intro o ho W hW; simp only [gT, gS, gZ, sI] at ho; subst ho; (try dsimp only at hW); go_simp; try rfl)
      try simp only [Act.put, iT, iZ, iS]
      refine takeT 4 (some 37) (.int .i64 (j : Nat)) ?hyq4 trivial ?restq4
      case hyq4 => (intro o ho W hW; simp only [gT, gS, gZ, sI] at ho; subst ho; (try dsimp only at hW); go_simp; try exact hwj)
      try simp only [Act.put, iT, iZ, iS]
      refine takeT 5 (some 38) ?vq5 ?hyq5 trivial ?restq5
      case hyq5 => (intro o ho W hW; simp only [gT, gS, gZ, sI] at ho; subst ho; (try dsimp only at hW); go_simp; try rfl)
      try simp only [Act.put, iT, iZ, iS]
      refine takeT 6 (some 39) ?vq6 ?hyq6 trivial ?restq6
      case hyq6 => (intro o ho W hW; simp only [gT, gS, gZ, sI] at ho; subst ho; (try dsimp only at hW); go_simp; try rfl)
      try simp only [Act.put, iT, iZ, iS]
      refine takeT 7 (some 40) (.int .i64 (j : Nat)) ?hyq7 trivial ?restq7
      case hyq7 => (intro o ho W hW; simp only [gT, gS, gZ, sI] at ho; subst ho; (try dsimp only at hW); go_simp; try exact hwj)
      try simp only [Act.put, iT, iZ, iS]
      refine takeT 8 (some 41) (.pointer (some ⟨g, j, none⟩)) ?hyq8 trivial ?restq8
      case hyq8 => (intro o ho W hW; simp only [gT, gS, gZ, sI] at ho; subst ho; (try dsimp only at hW); go_simp; try rfl)
      try simp only [Act.put, iT, iZ, iS]
      refine takeT 10 (some 43) ?vq10 ?hyq10 trivial ?restq10
      case hyq10 => (intro o ho W hW; simp only [gT, gS, gZ, sI] at ho; subst ho; (try dsimp only at hW); go_simp; try rfl)
      try simp only [Act.put, iT, iZ, iS]
      refine takeT 11 (some 44) ?vq11 ?hyq11 trivial ?restq11
      case hyq11 => (intro o ho W hW; simp only [gT, gS, gZ, sI] at ho; subst ho; (try dsimp only at hW); go_simp; try rfl)
      try simp only [Act.put, iT, iZ, iS]
      refine takeT 12 (some 45) (.pointer (some ⟨g, j + 1, none⟩)) ?hyq12 trivial ?restq12
      case hyq12 => (intro o ho W hW; simp only [gT, gS, gZ, sI] at ho; subst ho; (try dsimp only at hW); go_simp; try (intro hneg; exact absurd hneg (by omega)))
      try simp only [Act.put, iT, iZ, iS]
      refine forkS 9 13 (by kernel_rfl) (by rfl) (by rfl) (fun o ho K hK => ?_) (fun o ho K hK => ?_)
      ·simp only [gT, gS, gZ, sI] at ho; subst ho
       go_simp
       refine hK.out _ _ trivial (fun _ => ?_)
       clear hK K
       try simp only [Act.put, iT, iZ, iS]
       refine nextS 13 (by kernel_rfl) (by rfl) (fun o ho K hK => ?_)
       simp only [gT, gS, gZ, sI] at ho; subst ho
       go_simp
       refine hK.out _ _ trivial (fun _ => ?_)
       clear hK K
       try simp only [Act.put, iT, iZ, iS]
       refine takeT 14 (some 47) (.pointer (some ⟨g, j + 1, none⟩)) ?hya14 trivial ?resta14
       case hya14 => (intro o ho W hW; simp only [gT, gS, gZ, sI] at ho; subst ho; (try dsimp only at hW); go_simp; try (intro hneg; exact absurd hneg (by omega)))
       try simp only [Act.put, iT, iZ, iS]
       refine nextS 15 (by kernel_rfl) (by rfl) (fun o ho K hK => ?_)
       simp only [gT, gS, gZ, sI] at ho; subst ho
       go_simp
       refine hK.out _ _ trivial (fun _ => ?_)
       clear hK K
       try simp only [Act.put, iT, iZ, iS]
       refine takeT 16 (some 48) (.pointer (some ⟨g, j, none⟩)) ?hya16 trivial ?resta16
       case hya16 => (intro o ho W hW; simp only [gT, gS, gZ, sI] at ho; subst ho; (try dsimp only at hW); go_simp; try rfl)
       try simp only [Act.put, iT, iZ, iS]
       refine nextS 17 (by kernel_rfl) (by rfl) (fun o ho K hK => ?_)
       simp only [gT, gS, gZ, sI] at ho; subst ho
       go_simp
       refine hK.out _ _ trivial (fun _ => ?_)
       clear hK K
       try simp only [Act.put, iT, iZ, iS]
       refine wpAnyH_done (by kernel_rfl) ?_ _
       refine NoPanic.normal ?_
       go_wp2
       go_roundw
       case rel =>
        refine ⟨j, swp zs j, by omega, rfl, ?_, ?_, ⟨by rw [swp_len]; exact HJ.out.1, fun x => (swp_mem (by have := HJ.out.1; omega) x).trans (HJ.out.2.1 x), HR.out⟩⟩
        ·have := (A4.out.set (j + 1) y0).set j y1
         rwa [← G.out.1, ← G.out.2] at this ⊢
        ·exact ((hk.out.2.on b3).on b4).set (.inl rfl) _ |>.set (.inl rfl) _
       case measure => simp [intOf]
      ·simp only [gT, gS, gZ, sI] at ho; subst ho
       go_simp
       refine hK.out _ _ trivial (fun _ => ?_)
       clear hK K
       try simp only [Act.put, iT, iZ, iS]
       refine nextS 9 (by kernel_rfl) (by rfl) (fun o ho K hK => ?_)
       simp only [gT, gS, gZ, sI] at ho; subst ho
       go_simp
       refine hK.out _ _ trivial (fun _ => ?_)
       clear hK K
       try simp only [Act.put, iT, iZ, iS]
       refine takeT 14 (some 47) (.pointer (some ⟨g, j + 1, none⟩)) ?hyb14 trivial ?restb14
       case hyb14 => (intro o ho W hW; simp only [gT, gS, gZ, sI] at ho; subst ho; (try dsimp only at hW); go_simp; try (intro hneg; exact absurd hneg (by omega)))
       try simp only [Act.put, iT, iZ, iS]
       refine nextS 15 (by kernel_rfl) (by rfl) (fun o ho K hK => ?_)
       simp only [gT, gS, gZ, sI] at ho; subst ho
       go_simp
       refine hK.out _ _ trivial (fun _ => ?_)
       clear hK K
       try simp only [Act.put, iT, iZ, iS]
       refine takeT 16 (some 48) (.pointer (some ⟨g, j, none⟩)) ?hyb16 trivial ?restb16
       case hyb16 => (intro o ho W hW; simp only [gT, gS, gZ, sI] at ho; subst ho; (try dsimp only at hW); go_simp; try rfl)
       try simp only [Act.put, iT, iZ, iS]
       refine nextS 17 (by kernel_rfl) (by rfl) (fun o ho K hK => ?_)
       simp only [gT, gS, gZ, sI] at ho; subst ho
       go_simp
       refine hK.out _ _ trivial (fun _ => ?_)
       clear hK K
       try simp only [Act.put, iT, iZ, iS]
       refine wpAnyH_done (by kernel_rfl) ?_ _
       refine NoPanic.normal ?_
       go_wp2
       go_roundw
       case rel =>
        refine ⟨j, swp zs j, by omega, rfl, ?_, ?_, ⟨by rw [swp_len]; exact HJ.out.1, fun x => (swp_mem (by have := HJ.out.1; omega) x).trans (HJ.out.2.1 x), HR.out⟩⟩
        ·have := (A4.out.set (j + 1) y0).set j y1
         rwa [← G.out.1, ← G.out.2] at this ⊢
        ·exact ((hk.out.2.on b3).on b4).set (.inl rfl) _ |>.set (.inl rfl) _
       case measure => simp [intOf]
     ·rw [decide_eq_false hl] at CL
      have HR := Lib.hid (RiseBut.done HJ.out.2.2 (by rw [g1, g0]; omega) hji)
      clear hl g1 g0
      go_wp2_with fail
      refine wp_region_ext (by kernel_rfl) (by kernel_rfl) ?_
      repeat (go_big_quiet_step ((go_at_call 172; with_reducible exact calls_ext (CL.out _))))
      refine wpQuiet_nil ?_
      intro w3 hw3
      have b3 := ext_to hw3
      clear hw3
      go_wp2
      refine ⟨⟨i + 1, zs, by omega, by omega, by go_num, hk.out.1.on b3, hk.out.2.on b3, ⟨HJ.out.1, HJ.out.2.1, ?_⟩⟩, by simp [intOf]; omega⟩
      rw [Nat.min_eq_left (by omega)]
      exact HR.out
  ·go_wp2
   go_end0
   refine ⟨rfl, ys, hA, ⟨by rw [HK.out.1, HN.out], HK.out.2.1, ?_⟩, hO⟩
   have := HK.out.2.2
   rw [Nat.min_eq_right (by omega)] at this
   rw [HK.out.1]
   exact this
end Go.Proofs.YtjlaffgbmcpldaaGreatDoor
