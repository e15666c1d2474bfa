/-
  
-/
import Derived.Test.YtgnjjlgmlokhmaaGreatDoorG30
import Derived.Test.YtgnjjlgmlokhmaaGreatDoorG20
import Derived.Test.YtgnjjlgmlokhmaaGreatDoorG24
import Derived.RangeFuncNested
import Derived.RangeFuncBound
import Derived.RangeFuncCalls
import Derived.RangeFuncLeaves
import Derived.RangeFuncBox
import Derived.RangeFuncStops
import Derived.Shelf.Abstract
import Derived.Shelf.RegionOpen
import Derived.WalkKit
import Derived.OwnWalkIn
import Derived.TacticsInMore
import Derived.LoopNIn
import Derived.LoopIn
import Derived.Maps.OwnIn
import Derived.Test.YtgnjjlgmlokhmaaGreatDoorG28
set_option linter.unusedVariables false
set_option linter.unusedSimpArgs false
set_option maxRecDepth 100000
namespace Go.Proofs.YtgnjjlgmlokhmaaGreatDoor
open Go.RowKit

theorem add_g0 (g k : Nat) : (⟨g, 0, none⟩ : Addr).add k = ⟨g, k, none⟩ := by unfold Addr.add; split <;> simp_all
theorem use_at {w : World} {A : Option Addr} {n j : Nat} {l : List D.Uv} {y : D.Uv} (h : Rw 14 w A n (uS.rcs l)) (hj : l[j]? = some y) : ∃ ad, A = some ad ∧ ad.block < w.heap.size ∧ uS.rd w (ad.add (j * 14)) = some y ∧ Nm.rd w (ad.add (j * 14)) = some y.n := by
 have hl : (bys y.n.l).length = 12 := by rw [bys_len, y.n.len]
 obtain ⟨b, hb⟩ : ∃ b, (ucells y)[0]? = some b := ⟨_, List.getElem?_eq_getElem (by rw [show (ucells y).length = 14 from uS.len y]; omega)⟩
 obtain ⟨ad, rfl, hlt, _⟩ := h.cell (Shp.rcs_at hj 0 _ hb)
 have hc : ∀ i u, (ucells y)[i]? = some u -> w.cell? ((ad.add (j * 14)).add i) = some u := fun i u hu => by
  obtain ⟨ad', e, _, hc'⟩ := h.cell (Shp.rcs_at hj i u hu)
  cases e
  rw [add_of_add]
  exact hc'
 exact ⟨ad, rfl, hlt, Shp.rd_of hc, Nm.rd_of fun i u hu => hc i u (by
  have hi := (List.getElem?_eq_some_iff.1 hu).1
  unfold ucells
  rw [List.getElem?_append_left hi]; exact hu)⟩
theorem ow_set_last {base n c : Nat} {w : World} {A : Option Addr} {acc : List D.Uv} {y : D.Uv} (h : Ow 41 14 base w A n c (uS.rcs (acc ++ [y]))) (z : D.Uv) (ad : Addr) (hA : A = some ad) :
  ∃ w', (stuv (.pointer (some (ad.add (acc.length * 14)))) (.agg (uS.v z))).run Tryz.prog w = .ok () w' ∧ Ow 41 14 base w' A n c (uS.rcs (acc ++ [z])) ∧ w.grownBy w' (some ad.block) := by
 have hlen := h.len
 rw [Shp.rcs_len, show uS.n = 14 from rfl] at hlen
 simp only [List.length_append, List.length_cons, List.length_nil] at hlen
 rcases h.row.2 with ⟨_, h0⟩ | ⟨g, cap, cur, e, hg, hh, h1, h2, h3, h4⟩
 ·omega
 ·injection e with e1 e2 e3
  subst e1 e3
  injection hA with hA
  subst hA
  rw [add_g0]
  have hroom : acc.length * 14 + 14 <= cur.size := by
   rw [h3]
   have : acc.length + 1 <= c := by omega
   have := Nat.mul_le_mul_right 14 this
   omega
  have hs := run_storeCells_at (P := Tryz.prog) g (acc.length * 14) 41 (ucells z) 0 cur w hh (by rw [show (ucells z).length = 14 from uS.len z]; omega) (uS.one z)
  have hi : (Tryz.prog.info? 41).map (·.size) = some 14 := by kernel_rfl
  obtain ⟨row, hrow⟩ : ∃ row, (cur.toList.take (acc.length * 14 + 0) ++ ucells z ++ cur.toList.drop (acc.length * 14 + 0 + (ucells z).length)).toArray = row := ⟨_, rfl⟩
  rw [hrow] at hs
  refine ⟨w.setRow g row, ?_, ?_, ?_⟩
  ·simp only [stuv, Instr.storeAt, Instr.sureAddr, Sem.run_bind, Sem.run_pure, Result.andThen_ok]
   cases hq : Tryz.prog.info? 41 with
   | none => simp [hq] at hi
   | some i =>
    have hsz : i.size = 14 := by simpa [hq] using hi
    have hvs : (uS.v z).size = 14 := uS.v_size z
    simp [storeVar, sizeOf, typeInfo, hq, Value.cells, hvs, hsz]
    exact hs
  ·refine ⟨⟨by rw [Shp.rcs_len, show uS.n = 14 from rfl]; simp; omega, .inr ⟨g, c, row, rfl, hg, ?_, h1, h2, ?_, ?_⟩⟩, Nat.le_trans h.base (by simp [World.setRow])⟩
   ·simp [World.setRow, Array.getElem?_modify, hh]
   ·rw [<- hrow, <- h3]
    simp [show (ucells z).length = 14 from uS.len z]
    omega
   ·rw [<- hrow]
    have hpre : cur.toList.take (acc.length * 14) = uS.rcs acc := by
     have := congrArg (List.take (acc.length * 14)) h4
     rw [List.take_take, Nat.min_eq_left (by omega), Shp.rcs_app, List.take_append_of_le_length (by rw [Shp.rcs_len, show uS.n = 14 from rfl]; omega)] at this
     rw [this]
     exact List.take_of_length_le (by rw [Shp.rcs_len, show uS.n = 14 from rfl]; omega)
    have hn : n * 14 = (uS.rcs acc ++ ucells z).length := by rw [List.length_append, Shp.rcs_len, show uS.n = 14 from rfl, show (ucells z).length = 14 from uS.len z]; omega
    show List.take (n * 14) (List.take (acc.length * 14 + 0) cur.toList ++ ucells z ++ _) = _
    rw [Nat.add_zero, hpre, hn, List.take_left, Shp.rcs_app]
    simp [Shp.rcs]
    rfl
  ·refine ⟨rfl, rfl, rfl, by simp [World.setRow], fun k hk hne => ?_⟩
   have : ¬ g = k := fun e => hne (by rw [e])
   simp [World.setRow, Array.getElem?_modify, this]
end Go.Proofs.YtgnjjlgmlokhmaaGreatDoor
namespace Go.Proofs.YtgnjjlgmlokhmaaGreatDoor
open Go.RowKit

theorem name_back {d : Nat} {cs : List Value} {L : List Lit} (hL : Tryz.prog.keyLits (d + 1) 39 cs = some L) : ∃ x : Nm.D.Nm, cs = bys x.l := by
 have hc : Tryz.prog.cellsOf 39 = 12 := by kernel_rfl
 unfold Program.keyLits at hL
 rw [Tryz.underlying39] at hL
 simp only [hc] at hL
 split at hL
 ·rename_i h12
  simp only [Option.map_eq_some_iff] at hL
  obtain ⟨ys, ha, _⟩ := hL
  have hlen := mapM_some_length ha
  have key : ∀ i, ∃ b : Nat, i < 12 -> b < 256 ∧ cs[i]? = some (.int .u8 b) := by
   intro i
   by_cases hi : i < 12
   ·have hg := mapM_some_get ha i i (by rw [List.getElem?_range hi])
    rw [List.length_range] at hlen
    have x0 : ys[i]? = some (ys[i]'(by omega)) := List.getElem?_eq_getElem _
    rw [x0] at hg
    obtain ⟨n, e1, e2⟩ := keyLits_int' Tryz.underlying5 hg
    rw [Nm.cells_u8, Nat.mul_one] at e1
    have hw := keyLits_wf hg (.int .u8 n) (by rw [e2]; simp)
    have e3 : ((cs.drop i).take 1)[0]? = some (.int .u8 n) := by rw [e1]; rfl
    rw [List.getElem?_take_of_lt (by omega), List.getElem?_drop, Nat.add_zero] at e3
    have hb : 0 <= n ∧ n < 256 := by
     have hw' : (Lit.int .u8 n).wf = true := by simpa [Lit.keyWf] using hw
     simp [Lit.wf, IntKind.min, IntKind.max, IntKind.bits, IntKind.signed] at hw'
     omega
    exact ⟨n.toNat, fun _ => ⟨by omega, by rw [Int.toNat_of_nonneg hb.1]; exact e3⟩⟩
   ·exact ⟨0, fun h => absurd h hi⟩
  refine ⟨⟨(List.range 12).map fun i => Classical.choose (key i), by simp, ?_⟩, ?_⟩
  ·intro b hb
   obtain ⟨i, hi, rfl⟩ := List.mem_map.1 hb
   exact (Classical.choose_spec (key i) (List.mem_range.1 hi)).1
  ·apply List.ext_getElem?
   intro i
   by_cases hi : i < 12
   ·rw [(Classical.choose_spec (key i) hi).2]
    simp [bys, List.getElem?_map, List.getElem?_range hi]
   ·rw [List.getElem?_eq_none (by omega), List.getElem?_eq_none (by simp [bys]; omega)]
 ·cases hL
theorem use_back {v : Value} {l : Lit} (h : keyOf Tryz.prog 41 v = some l) : ∃ x : D.Uv, v = .agg (uS.v x) := by
 obtain ⟨xs, L, rfl, hL, _⟩ := keyOf_top (by rw [Tryz.underlying41]) h
 have c0 : Tryz.prog.cellsOf 39 = 12 := by kernel_rfl
 have c1 : Tryz.prog.cellsOf 5 = 1 := by kernel_rfl
 have c2 : Tryz.prog.cellsOf 9 = 1 := by kernel_rfl
 have c3 : Tryz.prog.cellsOf 41 = 14 := by kernel_rfl
 unfold Program.keyLits at hL
 rw [Tryz.underlying41] at hL
 simp only [c3] at hL
 split at hL
 ·rename_i h14
  simp only [Option.map_eq_some_iff] at hL
  obtain ⟨ys, ha, _⟩ := hL
  have hlen := mapM_some_length ha
  simp only [List.length_cons, List.length_nil] at hlen
  have g0 := mapM_some_get ha 0 _ rfl
  have g1 := mapM_some_get ha 1 _ rfl
  have g2 := mapM_some_get ha 2 _ rfl
  rw [List.getElem?_eq_getElem (by omega)] at g0 g1 g2
  simp only [c0, c1, c2, List.drop_zero] at g0 g1 g2
  obtain ⟨m, hm⟩ := name_back (d := Tryz.prog.types.size - 1) (by rw [show Tryz.prog.types.size - 1 + 1 = Tryz.prog.types.size by kernel_rfl]; exact g0)
  obtain ⟨n, e1, e2⟩ := keyLits_int' Tryz.underlying5 g1
  obtain ⟨s, e3, _⟩ := keyLits_string' Tryz.underlying9 g2
  have hw := keyLits_wf g1 (.int .u8 n) (by rw [e2]; simp)
  have hb : 0 <= n ∧ n < 256 := by
   have hw' : (Lit.int .u8 n).wf = true := by simpa [Lit.keyWf] using hw
   simp [Lit.wf, IntKind.min, IntKind.max, IntKind.bits, IntKind.signed] at hw'
   omega
  refine ⟨⟨m, n.toNat, s⟩, ?_⟩
  congr 1
  apply Array.ext'
  show xs.toList = bys m.l ++ [.int .u8 (n.toNat : Nat), .string s]
  rw [Int.toNat_of_nonneg hb.1, <- hm]
  have e4 : (xs.toList.drop 12) = [.int .u8 n, .string s] := by
   have h1 : xs.toList.drop 12 = (xs.toList.drop 12).take 1 ++ (xs.toList.drop 12).drop 1 := (List.take_append_drop 1 _).symm
   rw [h1, e1, List.drop_drop]
   have h2 : xs.toList.drop (12 + 1) = (xs.toList.drop 13).take 1 ++ (xs.toList.drop 13).drop 1 := (List.take_append_drop 1 _).symm
   rw [h2, e3, List.drop_drop, List.drop_of_length_le (by have := h14.1; omega)]
   rfl
  rw [<- e4]
  exact (List.take_append_drop 12 _).symm
 ·cases hL
end Go.Proofs.YtgnjjlgmlokhmaaGreatDoor
namespace Go.Proofs.YtgnjjlgmlokhmaaGreatDoor
open Go.RowKit Go.Shelf
attribute [local go_sem] Oper.semAt_some
attribute [local go_sem ↓] Go.wp_at_zero Go.wp_at_succ ld_uv lv_uv st_uv bd_uv bs_uv
attribute [local go_sem] run_lvuv run_lduv run_stuv_new run_bsuv Shp.rd_new Shp.rd_old Shp.rd_drew Shp.rd_drewN

theorem perm_same : ∀ {k L : List D.Uv}, k.Nodup -> L.Nodup -> (∀ x, x ∈ k ↔ x ∈ L) -> k.Perm L
 | [], L, _, _, h => by
  cases L with
  | nil => exact .refl _
  | cons y L => exact absurd ((h y).2 (List.mem_cons_self ..)) (by simp)
 | x :: k, L, hk, hL, h => by
  obtain ⟨s, t, rfl⟩ := List.append_of_mem ((h x).1 (List.mem_cons_self ..))
  have hp : (s ++ x :: t).Perm (x :: (s ++ t)) := List.perm_middle
  have hn := hp.nodup_iff.1 hL
  have hx := (List.nodup_cons.1 hn).1
  have hx' := (List.nodup_cons.1 hk).1
  refine .trans ?_ hp.symm
  refine .cons x (perm_same (List.nodup_cons.1 hk).2 (List.nodup_cons.1 hn).2 fun y => ?_)
  have hy := (h y).trans hp.mem_iff
  simp only [List.mem_cons] at hy
  by_cases e : y = x
  ·subst e
   exact ⟨fun h => absurd h hx', fun h => absurd h hx⟩
  ·simpa [e] using hy
structure Left (L ks : List D.Uv) (left : Lit -> Bool) (cnt : Nat) : Prop where
 at_ : ∀ (x : D.Uv) (l : Lit), keyOf Tryz.prog 41 (.agg (uS.v x)) = some l -> left l = decide (x ∈ L ∧ x ∉ ks)
 nodup : ks.Nodup
 sub : ∀ x ∈ ks, x ∈ L
 le : ks.length + cnt <= L.length
theorem Left.next {L ks : List D.Uv} {left : Lit -> Bool} {cnt cnt' : Nat} (h : Left L ks left cnt) {x : D.Uv} {l : Lit} (hk : keyOf Tryz.prog 41 (.agg (uS.v x)) = some l) (hl : left l = true) (hc : cnt' < cnt) :
  Left L (ks ++ [x]) (fun z => left z && !z.sameKey l) cnt' := by
 rw [h.at_ x l hk] at hl
 obtain ⟨h1, h2⟩ := of_decide_eq_true hl
 refine ⟨fun y k hy => ?_, ?_, ?_, by have := h.le; simp; omega⟩
 ·by_cases e : k = l
  ·subst e
   have e2 := law_u.inj hy hk
   injection e2 with e2
   obtain rfl := uS.v_inj e2
   rw [WideAt.sameKey_self (law_u.key hy)]
   simp
  ·have hne : y ≠ x := fun e' => e (by rw [e', hk] at hy; injection hy with hy; exact hy.symm)
   rw [Maps.sameKey_ne e, h.at_ y k hy]
   simp [hne]
 ·exact (List.perm_append_singleton x ks).nodup_iff.2 (List.nodup_cons.2 ⟨h2, h.nodup⟩)
 ·intro y hy
  rcases List.mem_append.1 hy with hy | hy
  ·exact h.sub y hy
  ·rw [List.mem_singleton.1 hy]; exact h1
theorem Left.all {L ks : List D.Uv} {left : Lit -> Bool} {cnt : Nat} (h : Left L ks left cnt) (hL : L.Nodup) (hok : ∀ x ∈ L, Uok x) (h0 : ∀ l, left l = false) : ks.Perm L :=
 perm_same h.nodup hL fun x => ⟨h.sub x, fun hx => by
  obtain ⟨l, hl⟩ := use_key x (hok x hx)
  have := h.at_ x l hl
  rw [h0] at this
  have h' := of_decide_eq_false this.symm
  exact Classical.byContradiction fun hn => h' ⟨hx, hn⟩⟩
theorem grown_none {W W' : World} (h : Below W.heap.size W W') : W.grownBy W' none := ⟨h.os, h.tape, h.output, h.size, fun k hk _ => h.block k hk⟩
set_option maxHeartbeats 4000000 in
theorem ukeys_in (n : Nat) (hn : 1 <= n) (l Bm b : Nat) (L : List D.Uv) (J Jx : List D.Uv -> World -> Prop) (W : World) (hA : AbidesFrom W.heap.size J)
  (hY : ∀ pre x W1, J pre W1 -> pre.length < L.length -> YieldAt Fence.wide (n - 1) Tryz.prog l #[.agg (uS.v x)] W1 fun e W' =>
   (e = .returned (.bool true) ∧ J (pre ++ [x]) W' ∧ KeepsWalks W1 W') ∨ (e = .returned (.bool false) ∧ Jx (pre ++ [x]) W'))
  (hm : W.cell? ⟨Bm, 0, none⟩ = some (.map (some b))) (hu : UsAt W b L) (hL : L.Nodup) (hok : ∀ x ∈ L, Uok x) (h0 : J [] W) :
  CallsIn Fence.wide n Tryz.prog 38 #[.func (.yield l) #[] #[], .pointer (some ⟨Bm, 0, none⟩)] W fun e W' => (∃ v, e = .returned v) ∧
   ((∃ ss : List D.Uv, ss.Perm L ∧ J ss W') ∨ (∃ pre, Jx pre W')) := by
 obtain ⟨Dm, hown, hhas, hsz⟩ := hu.out
 have HY := Lib.hid hY
 have HA := Lib.hid hA
 clear hY hA
 refine callsIn_of_wp Tryz.func38 rfl trivial ?_ rfl
 simp only [Tryz.ntmps38, List.size_toArray, List.length_cons, List.length_nil, Nat.reduceAdd, Nat.reduceSub, Array.replicate_succ, Array.replicate_zero, List.push_toArray, List.append_toArray, List.nil_append, List.cons_append]
 gi_wp2_with (first
  | (gi_at_range; refine wpListIn_range_own _ rfl _ 66 rfl 41 72 law_u map_us _ b L.length _ rfl hown ?_; intro w0 hrg0 hg0 hs0)
  | gi_in)
 go_frame
 gi_loopw [3] (fun _ wr => ∃ (left : Lit -> Bool) (cnt : Nat) (ss : List D.Uv), wr.ranges Tryz.prog 41 unitElem b W.heap.size L.length Dm left cnt ∧ Left L ss left cnt ∧ J ss wr)
  (fun _ wr => wr.rangeLeft b W.heap.size)
 case atStart =>
  exact ⟨_, _, [], hrg0, ⟨fun x k hk => by rw [hhas x k hk]; simp, List.nodup_nil, (fun x h => by cases h), by simp [hsz]⟩, HA.out [] W w0 none h0 hg0 (fun r e => by cases e)⟩
 case round =>
  obtain ⟨left, cnt, ss, hrg, hC, hJs⟩ := hrel
  gi_wp2_with (first
   | (gi_at_next; refine wpListIn_next_ranges _ rfl _ rfl 41 law_u unitElem (fun x : D.Uv => .agg (uS.v x)) id (fun key kl hk => use_back hk) (fun v _ _ => ⟨v, rfl⟩) b W.heap.size L.length _ _ _ rfl hrg ?_ ?_)
   | gi_in)
  ·intro hc0 hl0
   gi_wp2
   go_end0
   exact ⟨⟨_, rfl⟩, .inl ⟨ss, hC.all hL hok hl0, hJs⟩⟩
  ·intro x c kl yd yp w2 cnt2 hkey hlk hv hat hrg2 hlt hg2 hs2 hen
   have hJ2 : J ss w2 := HA.out ss wr w2 (some W.heap.size) hJs hg2 (fun r e => by cases e; exact ⟨Nat.le_refl _, hrg.iter_walk⟩)
   have hJ3 : J ss (w2.alloc (.cells (uS.v x) 41)) := HA.out ss w2 _ none hJ2 (grown_none (below_alloc_ _ _)) (fun r e => by cases e)
   have hC2 := hC.next hkey hlk hlt
   have hlen : ss.length < L.length := by have := hC2.le; simp at this; omega
   obtain ⟨fn, tmps, assign, body, hy, hR⟩ := HY.out ss x _ hJ3 hlen
   have f0 := Shp.rd_new (S := uS) w2 w2.heap.size 41 x rfl
   clear hs2
   gi_wp2
   refine hR.mono ?_
   rintro e W3 (⟨rfl, hJ4, hk3⟩ | ⟨rfl, hJx3⟩)
   ·gi_wp2
    have hrg3 := (hrg2.alloc (.cells (uS.v x) 41)).of_walks hk3
    go_roundw
    case rel => exact ⟨_, cnt2, ss ++ [x], hrg3, hC2, hJ4⟩
    case measure => rw [hrg3.left_eq, hrg.left_eq]; exact hlt
   ·gi_wp2
    refine bodyPost_ret (results_none rfl _ _ _) rfl ?_
    exact ⟨⟨_, rfl⟩, .inr ⟨ss ++ [x], hJx3⟩⟩
theorem ukeys_stops (n : Nat) (hn : 1 <= n) (Bm b : Nat) (L : List D.Uv) (w : World) (hBm : Bm < w.heap.size) (hm : w.cell? ⟨Bm, 0, none⟩ = some (.map (some b))) (hu : UsAt w b L) (hL : L.Nodup) (hok : ∀ x ∈ L, Uok x) :
  SeqStopsK Fence.wide n Tryz.prog 38 #[.pointer (some ⟨Bm, 0, none⟩)] (fun x : D.Uv => #[.agg (uS.v x)]) KeepsWalks (fun ss => ss.Perm L) (fun _ => True) L.length w := fun l J Jx W hW hJ _ hY h0 =>
 (ukeys_in n hn l Bm b L J Jx W hJ hY ((hW.cell (p := ⟨Bm, 0, none⟩) hBm).trans hm) (hu.on hW) hL hok h0).mono fun e W' ⟨h1, h2⟩ => ⟨h1, h2.elim .inl fun ⟨pre, h⟩ => .inr ⟨pre, trivial, h⟩⟩

theorem ow_cells {T : TypeId} {sz base n c : Nat} {w : World} {A : Option Addr} {xs : List Value} (h : Ow T sz base w A n c xs) : ∀ (j : Nat) (o : Obj), (Value.slice A n c).ownBlock = some j -> w.heap[j]? = some o -> o.isCells = true ∧ o.isWalk = false := by
 intro j o hg hj
 rcases h.row.2 with ⟨e2, _⟩ | ⟨g2, cap, cur, e2, _, hh, _⟩
 ·rw [e2] at hg; cases hg
 ·rw [e2] at hg
  injection hg with hg
  subst hg
  rw [hh] at hj
  injection hj with hj
  subst hj
  exact ⟨rfl, rfl⟩
theorem gappIn {F : Fence} {nF : Nat} {ST T : TypeId} {z : Value} {sz by_ : Nat} (w : World) (hu : Tryz.prog.underlying ST = some (.slice T)) (hi : (Tryz.prog.info? T).map (fun i => (i.zero, i.size, i.bytes)) = some (some z, sz, by_)) (hz : z.cells.size = sz) (hs : 0 < sz) (hby : by_ <= 1000)
  {ops : Array Oper} {rest : List Oper} {o : Oper} {a : Act} {Q : Exit -> Act -> World -> Prop} (hgd : o.guard = none) (s x : Operand)
  (hop : o.op = .call { callee := .builtin .append, args := #[s, x], argTypes := #[ST, ST] })
  {base : Nat} {A B : Option Addr} {n c m d : Nat} {l k : List Value} (hes : a.eval s = .slice A n c) (ho : Ow T sz base w A n c l) (hx : a.eval x = .slice B m d) (hr : Rw sz w B m k) (h1 : ∀ u ∈ k, u.oneCell' = true) (h63 : n + m <= 1000000)
  (h : ∀ A' c' w', Ow T sz base w' A' (n + m) c' (l ++ k) -> w.grownBy w' (Value.slice A n c).ownBlock -> wpListIn F nF Tryz.prog ops Q rest (a.put o.dst (.slice A' (n + m) c')) w') : wpListIn F nF Tryz.prog ops Q (o :: rest) a w := by
 obtain ⟨A', c', w', hrun, h2, h3, h4⟩ := run_gapp w hu hi hz hs o.type ho hr h1 h63 hby (d := d)
 refine wpListIn_plain hgd fun K hK => ?_
 unfold Oper.wpIn
 refine ⟨?_, ?_⟩
 ·simp [Oper.about, hop, resolve, Target.leads, Sem.run_pure]
 ·rw [Oper.semAt_plain F _ _ (by rw [hop]; intro c hc'; cases hc')]
  simp [execOp, hop, resolve, invoke, builtin, hes, hx, hrun, Result.andThen]
  exact hK _ _ (h A' c' w' h2 h3)
structure Got (w0 w : World) (B : Nat) (pre : List D.Uv) (A : Option Addr) (c : Nat) : Prop where
 box : Blk w B 31 #[.slice A pre.length c]
 own : Ow 41 14 (B + 1) w A pre.length c (uS.rcs pre)
 bel : Below w0.heap.size w0 w
 le : w0.heap.size <= B
 sz : B + 1 <= w.heap.size
theorem got_from {w0 : World} {B D0 : Nat} (hD : B + 1 <= D0) : OwnFrom D0 (fun (pre : List D.Uv) W => ∃ A c, Got w0 W B pre A c) := by
 rintro pre W W' row ⟨A, c, hG⟩ hg hr
 refine ⟨A, c, hG.box.grown hg ?_, hG.own.kept hg.size (fun g e => ?_), ?_, hG.le, Nat.le_trans hG.sz hg.size⟩
 ·intro e
  have := (hr _ e.symm).1
  omega
 ·have hgl := hG.own.lt g e
  refine hg.block g hgl.2 (fun e' => ?_)
  obtain ⟨_, o, ho, hc⟩ := hr g e'.symm
  have := (ow_cells hG.own g o e ho).1
  rw [hc] at this
  cases this
 ·exact hG.bel.grown hg hG.bel.size (fun k e => by have := (hr k e).1; have := hG.le; omega)
theorem blk_from {D0 gb : Nat} {cs : Array Value} {t : TypeId} {p : Prop} : OwnFrom D0 (fun (_ : Unit) W => Blk W gb t cs ∧ p) := fun s W W' row hs hg hr =>
 ⟨hs.1.grown hg (by intro e'; obtain ⟨_, o, ho, hc⟩ := hr _ e'.symm; rw [hs.1.out] at ho; injection ho with ho; subst ho; cases hc), hs.2⟩
set_option maxHeartbeats 4000000 in
theorem appendSeq_any (Bm b : Nat) (L : List D.Uv) (w : World) (hBm : Bm < w.heap.size) (hm : w.cell? ⟨Bm, 0, none⟩ = some (.map (some b))) (hu : UsAt w b L) (hL : L.Nodup) (hok : ∀ x ∈ L, Uok x) (hlen : L.length <= 1000) :
  Calls Tryz.prog 63 #[.slice none 0 0, .func (.func 38) #[] #[.pointer (some ⟨Bm, 0, none⟩)]] w fun e w' => ∃ (A : Option Addr) (c : Nat) (ss : List D.Uv), ss.Perm L ∧ e = .returned (.slice A ss.length c) ∧ Ow 41 14 w.heap.size w' A ss.length c (uS.rcs ss) ∧ Below w.heap.size w w' := by
 refine (callsIn_wide (n := 10)).1 ?_
 refine callsIn_of_wp_marks Tryz.func63 rfl trivial ?_ rfl
 simp only [Tryz.ntmps63, List.size_toArray, List.length_cons, List.length_nil, Nat.reduceAdd, Nat.reduceSub, Array.replicate_succ, Array.replicate_zero, List.push_toArray, List.append_toArray, List.nil_append, List.cons_append]
 gi_wp2
 have hB := Blk.new w 31 #[.slice none 0 0]
 have hbel : Below w.heap.size w (w.alloc (.cells #[.slice none 0 0] 31)) := below_alloc_ _ _
 have hu2 := hu.on hbel
 have hm2 := cell_kept_ hbel hm
 obtain ⟨w3, hw3⟩ : ∃ w3, w.alloc (.cells #[.slice none 0 0] 31) = w3 := ⟨_, rfl⟩
 have hz3 : w3.heap.size = w.heap.size + 1 := by rw [<- hw3]; simp
 rw [hw3] at hB hbel hu2 hm2
 try rw [hw3]
 clear hw3
 have h0 : ∃ A c, Got w w3 w.heap.size [] A c := ⟨none, 0, hB, Ow.nil _ 14 (by omega), hbel, Nat.le_refl _, by omega⟩
 refine wpIn_rangeFunc_ownH rfl (by decide) (gf := 38) (lb := #[.pointer (some ⟨Bm, 0, none⟩)]) rfl trivial (enters_of Tryz.func38 (by kernel_rfl) rfl)
  (ukeys_stops 9 (by decide) Bm b L w3 (by omega) hm2 hu2 hL hok) (fun h k => h.trans k) walksK_b (Below.refl _ _) (fun _ => rfl)
  (fun pre W => ∃ A c, Got w W w.heap.size pre A c) (fun _ _ _ => False) (got_from (by omega)) (fun _ _ _ _ _ hs _ _ => hs) h0
  (fun y a' W => ∃ gb, w3.heap.size <= gb ∧ Blk W gb 41 (uS.v y) ∧ a' = { tmps := #[.slice none 0 0, .func (.func 38) #[] #[.pointer (some ⟨Bm, 0, none⟩)], .pointer (some ⟨w.heap.size, 0, none⟩), undef, .slice none 0 0, .pointer (some ⟨gb, 0, none⟩), .func (.func 38) #[] #[.pointer (some ⟨Bm, 0, none⟩)], .agg (uS.v y), undef, undef, undef, undef, undef], defers := [] })
  (fun y a' s W W' row ⟨gb, h1, hs⟩ hg hr => ⟨gb, h1, blk_from s W W' row hs hg hr⟩) ?assign ?body ?done ?stop
 case assign =>
  rintro l pre y W K ⟨A, c, hG⟩ hK
  have hsz := hG.sz
  gi_wp2
  exact hK _ _ ((KeepsOthers.alloc _ _).from _) (KeepsWalks.alloc _ _) ⟨A, c, hG.box.alloc _, hG.own.alloc _, hG.bel.alloc hG.bel.size _, hG.le, by simp; omega⟩ ⟨W.heap.size, by omega, Blk.new _ _ _, rfl⟩
 case body =>
  rintro l pre y a' W hl ⟨r, hr⟩ ⟨A, c, hG⟩ ⟨gb, hgb, hBy, rfl⟩ hlt
  have hc := hG.box.cell
  have hf := hG.box.free
  have fy := Shp.rd_blk (S := uS) hBy
  gi_wp2_with (gi_at_builtin; refine gappIn _ use_under use_info rfl (by decide) (by decide) rfl (.tmp 8) (.tmp 10) rfl rfl (hG.own.alloc _) rfl (rw_use _ _ rfl y _) (by intro u hu; exact uS.rcs_one _ u hu) (by omega) ?_; intro A1 c1 w1 ho1 hg1; have hb1 := (hG.box.alloc (.cells (uS.v y) 41)).grown hg1 (fun e => by have := (hG.own.lt _ e.symm).1; omega); have hc1 := hb1.cell; have hf1 := hb1.free)
  have hsz := hG.sz
  have hz1 := hg1.size
  have hlp : (pre ++ [y]).length = pre.length + 1 := by simp
  have hoc := ow_cells (hG.own.alloc (.cells (uS.v y) 41))
  refine ⟨?_, ((KeepsWalks.alloc W _).trans (KeepsWalks.of_grownBy hg1 fun j o e h => (hoc j o e h).2)).trans (KeepsWalks.setCell _ _ _), A1, c1, ?_, ?_, ?_, hG.le, ?_⟩
  ·exact (((KeepsOthers.alloc W _).trans (KeepsOthers.of_grownBy hg1 fun j o e h => (hoc j o e h).1)).trans (KeepsOthers.setCell _ _ _)).from _
  ·rw [hlp]; exact hb1.set_ _
  ·rw [hlp, Shp.rcs_app]; exact ho1.kept (by simp [World.setCell]) (fun g e => Below.heap_setCell _ _ _ g (by have := (ho1.lt g e).1; show g ≠ w.heap.size; omega))
  ·exact ((hG.bel.alloc hG.bel.size _).grown hg1 (by have := hG.bel.size; simp; omega) (fun k e => by have := (hG.own.lt k e).1; omega)).setCell (Nat.le_refl _) _
  ·simp only [World.setCell, Array.size_modify]; simp at hz1; omega
 case done =>
  rintro D0 ys W hD hp ⟨A, c, hG⟩ hK
  have hc := hG.box.cell
  gi_wp2
  refine ⟨by simp, .inl ⟨_, _, rfl, run_takeDeferred hK, ?_⟩⟩
  refine ⟨_, results_tmp rfl _ _ _, A, c, ys, hp, rfl, (hG.own.kept (by simp [World.putObj]) (fun g e => World.putObj_heap_other (fun e' => by subst e'; have := (ow_cells hG.own g _ e hK).1; cases this))).base_ (by omega), hG.bel.trans (belowK_b (w := w) (Nat.le_refl _) W D0 _ _ (by omega) hK rfl rfl)⟩
 case stop =>
  rintro D0 c pre W _ _ h _
  exact h.elim
end Go.Proofs.YtgnjjlgmlokhmaaGreatDoor
