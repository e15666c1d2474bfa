/-
  
-/
import Derived.Test.YtjlaffgbmcpldaaGreatDoorG30
import Derived.Test.YtjlaffgbmcpldaaGreatDoorG28
import Derived.Maps.OwnIn
import Derived.Test.YtjlaffgbmcpldaaGreatDoorShp
import Derived.Test.YtjlaffgbmcpldaaGreatDoorG16
import Derived.Test.YtjlaffgbmcpldaaGreatDoorGow
import Derived.Test.YtjlaffgbmcpldaaGreatDoorG13
import Derived.Laws.Bits64b
import Derived.Shelf.Spec.TrailingZeros
import Derived.WalkKit
import Derived.IntWalk
import Derived.StillTailTactics
import Derived.BigQuiet
import Derived.Deep.Light
import Derived.Test.YtjlaffgbmcpldaaGreatDoorG10
import Derived.Test.YtjlaffgbmcpldaaGreatDoorG09
set_option linter.unusedVariables false
set_option linter.unusedSimpArgs false
set_option maxRecDepth 100000
namespace Go.Proofs.YtjlaffgbmcpldaaGreatDoor
namespace Pn
open Go.RowKit Go.Shelf
attribute [local go_sem] Oper.semAt_some
attribute [local go_sem ↓] Go.wp_at_zero Go.wp_at_succ
theorem perm_same : ∀ {k L : List Nat}, k.Nodup → L.Nodup → (∀ x, x ∈ k ↔ x ∈ L) → k.Perm L
 | [], L, _, _, h => by
  cases L with
  | nil => exact .refl _
  | cons y L => exact absurd ((h y).2 (List.mem_cons_self ..)) (by simp)
 | x :: k, L, hk, hL, h => by
  obtain ⟨s, t, rfl⟩ := List.append_of_mem ((h x).1 (List.mem_cons_self ..))
  have hp : (s ++ x :: t).Perm (x :: (s ++ t)) := List.perm_middle
  have hn := hp.nodup_iff.1 hL
  have hx := (List.nodup_cons.1 hn).1
  have hx' := (List.nodup_cons.1 hk).1
  refine .trans ?_ hp.symm
  refine .cons x (perm_same (List.nodup_cons.1 hk).2 (List.nodup_cons.1 hn).2 fun y => ?_)
  have hy := (h y).trans hp.mem_iff
  simp only [List.mem_cons] at hy
  by_cases e : y = x
  ·subst e
   exact ⟨fun h => absurd h hx', fun h => absurd h hx⟩
  ·simpa [e] using hy
theorem key_back {v : Value} {l : Lit} (h : keyOf Tryz.prog 42 v = some l) : ∃ x : Nat, x < 18446744073709551616 ∧ v = .int .u64 (x : Nat) ∧ l = kl x := by
 obtain ⟨z, rfl, rfl, hw⟩ := Maps.keyOf_int_inv Tryz.underlying42 h
 have hb : 0 ≤ z ∧ z < 18446744073709551616 := by
  simp [Lit.wf, IntKind.min, IntKind.max, IntKind.signed, IntKind.bits] at hw
  omega
 obtain ⟨x, rfl⟩ : ∃ x : Nat, z = x := ⟨z.toNat, by omega⟩
 exact ⟨x, by omega, rfl, rfl⟩
structure Left (L ks : List Nat) (left : Lit → Bool) (cnt : Nat) : Prop where
 at_ : ∀ x, x < 18446744073709551616 → left (kl x) = decide (x ∈ L ∧ x ∉ ks)
 nodup : ks.Nodup
 sub : ∀ x ∈ ks, x ∈ L
 le : ks.length + cnt ≤ L.length
theorem Left.next {L ks : List Nat} {left : Lit → Bool} {cnt cnt' : Nat} (h : Left L ks left cnt) {x : Nat} (hx : x < 18446744073709551616) (hl : left (kl x) = true) (hc : cnt' < cnt) :
  Left L (ks ++ [x]) (fun z => left z && !z.sameKey (kl x)) cnt' := by
 rw [h.at_ x hx] at hl
 obtain ⟨h1, h2⟩ := of_decide_eq_true hl
 refine ⟨fun y hy => ?_, ?_, ?_, by have := h.le; simp; omega⟩
 ·by_cases e : y = x
  ·subst e
   rw [WideAt.sameKey_self (kl_key hy)]
   simp
  ·rw [Maps.sameKey_ne (fun e' => e (kl_inj e')), h.at_ y hy]
   simp [e]
 ·exact (List.perm_append_singleton x ks).nodup_iff.2 (List.nodup_cons.2 ⟨h2, h.nodup⟩)
 ·intro y hy
  rcases List.mem_append.1 hy with hy | hy
  ·exact h.sub y hy
  ·rw [List.mem_singleton.1 hy]; exact h1
theorem Left.all {L ks : List Nat} {left : Lit → Bool} {cnt : Nat} (h : Left L ks left cnt) (hL : L.Nodup) (hok : ∀ x ∈ L, x < 18446744073709551616) (h0 : ∀ l, left l = false) : ks.Perm L :=
 perm_same h.nodup hL fun x => ⟨h.sub x, fun hx => by
  have := h.at_ x (hok x hx)
  rw [h0] at this
  have h' := of_decide_eq_false this.symm
  exact Classical.byContradiction fun hn => h' ⟨hx, hn⟩⟩
set_option maxHeartbeats 4000000 in
theorem ukeys_in (n : Nat) (hn : 1 ≤ n) (l Bm b : Nat) (L : List Nat) (J Jx : List Nat → World → Prop) (W : World) (hA : AbidesFrom W.heap.size J)
  (hY : ∀ pre x W1, J pre W1 → pre.length < L.length → YieldAt Fence.wide (n - 1) Tryz.prog l #[.int .u64 (x : Nat)] W1 fun e W' =>
   (e = .returned (.bool true) ∧ J (pre ++ [x]) W' ∧ KeepsWalks W1 W') ∨ (e = .returned (.bool false) ∧ Jx (pre ++ [x]) W'))
  (hm : W.cell? ⟨Bm, 0, none⟩ = some (.map (some b))) {f : Nat → Nat} (hu : MpAt W b L f) (h0 : J [] W) :
  CallsIn Fence.wide n Tryz.prog 113 #[.func (.yield l) #[] #[], .pointer (some ⟨Bm, 0, none⟩)] W fun e W' => (∃ v, e = .returned v) ∧
   ((∃ ss : List Nat, ss.Perm L ∧ J ss W') ∨ (∃ pre, Jx pre W')) := by
 obtain ⟨Dm, hown, hhas, -, hsz⟩ := hu.out
 have hL := hu.nodup
 have hok := hu.lt
 have HY := Lib.hid hY
 have HA := Lib.hid hA
 clear hY hA
 refine callsIn_of_wp Tryz.func113 rfl trivial ?_ rfl
 simp only [Tryz.ntmps113, List.size_toArray, List.length_cons, List.length_nil, Nat.reduceAdd, Nat.reduceSub, Array.replicate_succ, Array.replicate_zero, List.push_toArray, List.append_toArray, List.nil_append, List.cons_append]
 gi_wp2_with (first
  | (gi_at_range; refine wpListIn_range_own _ rfl _ 49 rfl 42 3 law_w Tryz.underlying49 _ b L.length _ rfl hown ?_; intro w0 hrg0 hg0 hs0)
  | gi_in)
 go_frame
 gi_loopw [3] (fun _ wr => ∃ (left : Lit → Bool) (cnt : Nat) (ss : List Nat), wr.ranges Tryz.prog 42 (plainElem Tryz.prog 3) b W.heap.size L.length Dm left cnt ∧ Left L ss left cnt ∧ J ss wr)
  (fun _ wr => wr.rangeLeft b W.heap.size)
 case atStart =>
  exact ⟨_, _, [], hrg0, ⟨fun x hx => by rw [hhas x hx]; simp, List.nodup_nil, (fun x h => by cases h), by simp [hsz]⟩, HA.out [] W w0 none h0 hg0 (fun r e => by cases e)⟩
 case round =>
  obtain ⟨left, cnt, ss, hrg, hC, hJs⟩ := hrel
  gi_wp2_with (first
   | (gi_at_next; refine wpListIn_next_ranges _ rfl _ rfl 42 law_w (plainElem Tryz.prog 3) (fun x : Nat => .int .u64 (x : Nat)) id (fun key kl hk => let ⟨x, _, h, _⟩ := key_back hk; ⟨x, h⟩) (fun v _ _ => ⟨v, rfl⟩) b W.heap.size L.length _ _ _ rfl hrg ?_ ?_)
   | gi_in)
  ·intro hc0 hl0
   gi_wp2
   go_end0
   exact ⟨⟨_, rfl⟩, .inl ⟨ss, hC.all hL hok hl0, hJs⟩⟩
  ·intro x c kl yd yp w2 cnt2 hkey hlk hv hat hrg2 hlt hg2 hs2 hen
   have hJ2 : J ss w2 := HA.out ss wr w2 (some W.heap.size) hJs hg2 (fun r e => by cases e; exact ⟨Nat.le_refl _, hrg.iter_walk⟩)
   obtain ⟨x', hx', ex, rfl⟩ := key_back hkey
   obtain rfl : x = x' := by injection ex with _ ex; omega
   have hC2 := hC.next hx' hlk hlt
   have hlen : ss.length < L.length := by have := hC2.le; simp at this; omega
   obtain ⟨fn, tmps, assign, body, hy, hR⟩ := HY.out ss x _ hJ2 hlen
   clear hs2
   gi_wp2
   refine hR.mono ?_
   rintro e W3 (⟨rfl, hJ4, hk3⟩ | ⟨rfl, hJx3⟩)
   ·gi_wp2
    have hrg3 := hrg2.of_walks hk3
    go_roundw
    case rel => exact ⟨_, cnt2, ss ++ [x], hrg3, hC2, hJ4⟩
    case measure => rw [hrg3.left_eq, hrg.left_eq]; exact hlt
   ·gi_wp2
    refine bodyPost_ret (results_none rfl _ _ _) rfl ?_
    exact ⟨⟨_, rfl⟩, .inr ⟨ss ++ [x], hJx3⟩⟩
theorem ukeys_stops (n : Nat) (hn : 1 ≤ n) (Bm b : Nat) (L : List Nat) (w : World) (hBm : Bm < w.heap.size) (hm : w.cell? ⟨Bm, 0, none⟩ = some (.map (some b))) {f : Nat → Nat} (hu : MpAt w b L f) :
  SeqStopsK Fence.wide n Tryz.prog 113 #[.pointer (some ⟨Bm, 0, none⟩)] (fun x : Nat => #[.int .u64 (x : Nat)]) KeepsWalks (fun ss => ss.Perm L) (fun _ => True) L.length w := fun l J Jx W hW hJ _ hY h0 =>
 (ukeys_in n hn l Bm b L J Jx W hJ hY ((hW.cell (p := ⟨Bm, 0, none⟩) hBm).trans hm) (hu.on hW) h0).mono fun e W' ⟨h1, h2⟩ => ⟨h1, h2.elim .inl fun ⟨pre, h⟩ => .inr ⟨pre, trivial, h⟩⟩
end Pn
end Go.Proofs.YtjlaffgbmcpldaaGreatDoor
namespace Go.Proofs.YtjlaffgbmcpldaaGreatDoor
namespace Pn
open Go.RowKit Go.Shelf
attribute [local go_sem] Oper.semAt_some
attribute [local go_sem ↓] Go.wp_at_zero Go.wp_at_succ
structure Ks (w : World) (Bm : Nat) (L : List Nat) : Prop where
 out : ∀ W, Below w.heap.size w W → SeqStopsK Fence.wide 9 Tryz.prog 113 #[.pointer (some ⟨Bm, 0, none⟩)] (fun x : Nat => #[.int .u64 (x : Nat)]) KeepsWalks (fun ss => ss.Perm L) (fun _ => True) L.length W
theorem Ks.on {w w' : World} {Bm : Nat} {L : List Nat} (h : Ks w Bm L) (hb : Below w.heap.size w w') : Ks w' Bm L := ⟨fun W hW => h.out W (below_up hb hb.size hW)⟩
theorem ks_some {Bm b : Nat} {L : List Nat} {f : Nat → Nat} {w : World} (hm : w.cell? ⟨Bm, 0, none⟩ = some (.map (some b))) (hu : MpAt w b L f) : Ks w Bm L :=
 ⟨fun W hW => ukeys_stops 9 (by decide) Bm b L W (Nat.lt_of_lt_of_le (World.block_lt_of_cell? w _ hm) hW.size) (cell_kept_ hW hm) (hu.on hW)⟩
set_option maxHeartbeats 1000000 in
theorem nkeys_in (n : Nat) (hn : 1 ≤ n) (l Bm : Nat) (J Jx : List Nat → World → Prop) (W : World) (hJ : AbidesFrom W.heap.size J) (hm : W.cell? ⟨Bm, 0, none⟩ = some (.map none)) (h0 : J [] W) :
  CallsIn Fence.wide n Tryz.prog 113 #[.func (.yield l) #[] #[], .pointer (some ⟨Bm, 0, none⟩)] W fun e W' => (∃ v, e = .returned v) ∧
   ((∃ ss : List Nat, ss.Perm [] ∧ J ss W') ∨ (∃ pre, Jx pre W')) := by
 refine callsIn_of_wp Tryz.func113 rfl trivial ?_ rfl
 simp only [Tryz.ntmps113, List.size_toArray, List.length_cons, List.length_nil, Nat.reduceAdd, Nat.reduceSub, Array.replicate_succ, Array.replicate_zero, List.push_toArray, List.append_toArray, List.nil_append, List.cons_append]
 have hrg := run_range_nilMap (P := Tryz.prog) W 49 42 3 Tryz.underlying49
 have hnx : ∀ ty, (Instr.next (.pointer (some ⟨W.heap.size, 0, none⟩)) false ty).run Tryz.prog (W.alloc (.mapIter none 0 #[] 0)) = _ := fun ty => run_next_nilMap _ ty 0 0 #[]
 gi_wp2
 refine wpIn_loop_rounds 1 ?_
 rw [roundsIn_succ]
 gi_wp2
 go_end0
 exact ⟨⟨_, rfl⟩, .inl ⟨[], .refl _, hJ [] W _ none h0 (World.grownBy_alloc W _ none) (fun r e => by cases e)⟩⟩
theorem ks_none {Bm : Nat} {w : World} (hm : w.cell? ⟨Bm, 0, none⟩ = some (.map none)) : Ks w Bm [] :=
 ⟨fun W0 hW0 => fun l J Jx W hW hJ _ hY h0 => (nkeys_in 9 (by decide) l Bm J Jx W hJ ((hW.cell (p := ⟨Bm, 0, none⟩) (Nat.lt_of_lt_of_le (World.block_lt_of_cell? w _ hm) hW0.size)).trans (cell_kept_ hW0 hm)) h0).mono fun e W' ⟨h1, h2⟩ => ⟨h1, h2.elim .inl fun ⟨pre, h⟩ => .inr ⟨pre, trivial, h⟩⟩⟩
structure Got (w0 w : World) (B : Nat) (pre : List Nat) (A : Option Addr) (c : Nat) : Prop where
 box : Blk w B 92 #[.slice A pre.length c]
 own : Ow 42 1 (B + 1) w A pre.length c (wds pre)
 bel : Below w0.heap.size w0 w
 le : w0.heap.size ≤ B
 sz : B + 1 ≤ w.heap.size
theorem got_from {w0 : World} {B D0 : Nat} (hD : B + 1 ≤ D0) : OwnFrom D0 (fun (pre : List Nat) W => ∃ A c, Got w0 W B pre A c) := by
 rintro pre W W' row ⟨A, c, hG⟩ hg hr
 refine ⟨A, c, hG.box.grown hg ?_, hG.own.kept hg.size (fun g e => ?_), ?_, hG.le, Nat.le_trans hG.sz hg.size⟩
 ·intro e
  have := (hr _ e.symm).1
  omega
 ·have hgl := hG.own.lt g e
  refine hg.block g hgl.2 (fun e' => ?_)
  obtain ⟨_, o, ho, hc⟩ := hr g e'.symm
  have := (ow_cells hG.own g o e ho).1
  rw [hc] at this
  cases this
 ·exact hG.bel.grown hg hG.bel.size (fun k e => by have := (hr k e).1; have := hG.le; omega)
theorem ow_base {base base' : Nat} {T : TypeId} {sz n c : Nat} {W : World} {A : Option Addr} {xs : List Value} (h : Ow T sz base W A n c xs) (hb : base' ≤ base) : Ow T sz base' W A n c xs := by
 refine ⟨⟨h.row.1, ?_⟩, Nat.le_trans hb h.base⟩
 rcases h.row.2 with hn | ⟨g, cap, cur, e, hg, r⟩
 ·exact .inl hn
 ·exact .inr ⟨g, cap, cur, e, Nat.le_trans hb hg, r⟩
set_option maxHeartbeats 4000000 in
theorem appendSeq_any (Bm : Nat) (L : List Nat) (w : World) (hK : Ks w Bm L) (hlen : L.length ≤ 1000) :
  Calls Tryz.prog 140 #[.slice none 0 0, .func (.func 113) #[] #[.pointer (some ⟨Bm, 0, none⟩)]] w fun e w' => ∃ (A : Option Addr) (c : Nat) (ss : List Nat), ss.Perm L ∧ e = .returned (.slice A ss.length c) ∧ Ow 42 1 w.heap.size w' A ss.length c (wds ss) ∧ Below w.heap.size w w' := by
 refine (callsIn_wide (n := 10)).1 ?_
 refine callsIn_of_wp_marks Tryz.func140 rfl trivial ?_ rfl
 simp only [Tryz.ntmps140, List.size_toArray, List.length_cons, List.length_nil, Nat.reduceAdd, Nat.reduceSub, Array.replicate_succ, Array.replicate_zero, List.push_toArray, List.append_toArray, List.nil_append, List.cons_append]
 gi_wp2
 have hB := Blk.new w 92 #[.slice none 0 0]
 have hbel : Below w.heap.size w (w.alloc (.cells #[.slice none 0 0] 92)) := below_alloc_ _ _
 have hu2 := hK.out _ hbel
 obtain ⟨w3, hw3⟩ : ∃ w3, w.alloc (.cells #[.slice none 0 0] 92) = w3 := ⟨_, rfl⟩
 have hz3 : w3.heap.size = w.heap.size + 1 := by rw [← hw3]; simp
 rw [hw3] at hB hbel hu2
 try rw [hw3]
 clear hw3
 have h0 : ∃ A c, Got w w3 w.heap.size [] A c := ⟨none, 0, hB, Ow.nil _ 1 (by omega), hbel, Nat.le_refl _, by omega⟩
 refine wpIn_rangeFunc_ownH rfl (by decide) (gf := 113) (lb := #[.pointer (some ⟨Bm, 0, none⟩)]) rfl trivial (enters_of Tryz.func113 (by kernel_rfl) rfl)
  hu2 (fun h k => h.trans k) walksK_b (Below.refl _ _) (fun _ => rfl)
  (fun pre W => ∃ A c, Got w W w.heap.size pre A c) (fun _ _ _ => False) (got_from (by omega)) (fun _ _ _ _ _ hs _ _ => hs) h0
  (fun y a' W => a' = { tmps := #[.slice none 0 0, .func (.func 113) #[] #[.pointer (some ⟨Bm, 0, none⟩)], .pointer (some ⟨w.heap.size, 0, none⟩), undef, .slice none 0 0, .int .u64 (y : Nat), .func (.func 113) #[] #[.pointer (some ⟨Bm, 0, none⟩)], .int .u64 (y : Nat), undef, undef, undef, undef, undef], defers := [] })
  (fun y a' s W W' row h3 hg hr => h3) ?assign ?body ?done ?stop
 case assign =>
  rintro l pre y W K ⟨A, c, hG⟩ hK
  gi_wp2
  exact hK _ _ ((KeepsOthers.refl _).from _) (KeepsWalks.refl _) ⟨A, c, hG⟩ rfl
 case body =>
  rintro l pre y a' W hl ⟨r, hr⟩ ⟨A, c, hG⟩ rfl hlt
  have hc := hG.box.cell
  have hf := hG.box.free
  gi_wp2_with (gi_at_builtin; refine gappIn _ u64_under u64_info rfl (by decide) (by decide) rfl (.tmp 8) (.tmp 10) rfl rfl (hG.own.alloc (.cells #[.int .u64 (y : Nat)] 42)) rfl (rw_new W 1 42 1 #[.int .u64 (y : Nat)] rfl) (by intro u hu; simp at hu; subst hu; rfl) (by omega) ?_; intro A1 c1 w1 ho1 hg1; have hb1 := (hG.box.alloc (.cells #[.int .u64 (y : Nat)] 42)).grown hg1 (fun e => by have := (hG.own.lt _ e.symm).1; omega); have hc1 := hb1.cell; have hf1 := hb1.free)
  have hsz := hG.sz
  have hz1 := hg1.size
  have hlp : (pre ++ [y]).length = pre.length + 1 := by simp
  have hoc := ow_cells (hG.own.alloc (.cells #[.int .u64 (y : Nat)] 42))
  refine ⟨?_, ((KeepsWalks.alloc W _).trans (KeepsWalks.of_grownBy hg1 fun j o e h => (hoc j o e h).2)).trans (KeepsWalks.setCell _ _ _), A1, c1, ?_, ?_, ?_, hG.le, ?_⟩
  ·exact (((KeepsOthers.alloc W _).trans (KeepsOthers.of_grownBy hg1 fun j o e h => (hoc j o e h).1)).trans (KeepsOthers.setCell _ _ _)).from _
  ·rw [hlp]; exact hb1.set_ _
  ·rw [hlp, show wds (pre ++ [y]) = wds pre ++ [.int .u64 (y : Nat)] by simp [wds]]
   exact ho1.kept (by simp [World.setCell]) (fun g e => Below.heap_setCell _ _ _ g (by have := (ho1.lt g e).1; show g ≠ w.heap.size; omega))
  ·exact ((hG.bel.alloc hG.bel.size _).grown hg1 (by have := hG.bel.size; simp; omega) (fun k e => by have := (hG.own.lt k e).1; omega)).setCell (Nat.le_refl _) _
  ·simp only [World.setCell, Array.size_modify]; simp at hz1; omega
 case done =>
  rintro D0 ys W hD hp ⟨A, c, hG⟩ hK
  have hc := hG.box.cell
  gi_wp2
  refine ⟨by simp, .inl ⟨_, _, rfl, run_takeDeferred hK, ?_⟩⟩
  refine ⟨_, results_tmp rfl _ _ _, A, c, ys, hp, rfl, ow_base (hG.own.kept (by simp [World.putObj]) (fun g e => World.putObj_heap_other (fun e' => by subst e'; have := (ow_cells hG.own g _ e hK).1; cases this))) (by omega), hG.bel.trans (belowK_b (w := w) (Nat.le_refl _) W D0 _ _ (by omega) hK rfl rfl)⟩
 case stop =>
  rintro D0 c pre W _ _ h _
  exact h.elim
theorem mkeys_any (m : Option Nat) (w : World) : Calls Tryz.prog 76 #[.map m] w fun e w' => e = .returned (.func (.func 113) #[] #[.pointer (some ⟨w.heap.size, 0, none⟩)]) ∧ w' = w.alloc (.cells #[.map m] 49) := by
 go_enter Tryz.func76, Tryz.ntmps76
 go_wp2
 go_ret
 exact ⟨rfl, rfl⟩
theorem collect_any (Bm : Nat) (L : List Nat) (w : World) (hK : Ks w Bm L) (hlen : L.length ≤ 1000) :
  Calls Tryz.prog 111 #[.func (.func 113) #[] #[.pointer (some ⟨Bm, 0, none⟩)]] w fun e w' => ∃ (A : Option Addr) (c : Nat) (ss : List Nat), ss.Perm L ∧ e = .returned (.slice A ss.length c) ∧ Ow 42 1 w.heap.size w' A ss.length c (wds ss) ∧ Below w.heap.size w w' := by
 have C := Lib.hid (appendSeq_any Bm L w hK hlen)
 clear hK hlen
 go_enter Tryz.func111, Tryz.ntmps111
 go_wp2_with (go_at_call 140; (with_reducible refine C.out.mono ?_); rintro e w1 ⟨A1, c1, ss, hp, rfl, ho, hb⟩; have HP := Lib.hid hp; have HO := Lib.hid ho; have HB := Lib.hid hb; clear hp ho hb)
 go_ret
 exact ⟨A1, c1, ss, HP.out, rfl, HO.out, HB.out⟩
end Pn
end Go.Proofs.YtjlaffgbmcpldaaGreatDoor
namespace Go.Proofs.YtjlaffgbmcpldaaGreatDoor
namespace Pn
open Go.RowKit
structure Env (w : World) : Prop where
 at_ : ∀ j, j < 64 → w.cell? ⟨0, j, none⟩ = some (.int .u8 ((Lib.deBruijn64tab.getD j 0 : Nat) : Int))
theorem Env.on {w w' : World} (h : Env w) (hb : Below w.heap.size w w') : Env w' := ⟨fun j hj => cell_kept_ hb (h.at_ j hj)⟩
theorem Env.only {S : Nat → Prop} {w w' : World} (h : Env w) (hb : Only S w w') (hg : ¬ S 0) : Env w' := ⟨fun j hj => by
 have := h.at_ j hj
 rw [← this]
 exact World.cell?_of_block (w := w) (hb.block _ (World.block_lt_of_cell? w _ this) hg)⟩
end Pn
end Go.Proofs.YtjlaffgbmcpldaaGreatDoor
namespace Go.Proofs.YtjlaffgbmcpldaaGreatDoor
namespace Pn
open Go.RowKit
attribute [local go_sem ↓] Go.wp_at_zero Go.wp_at_succ
def tc (l : D.Ps) (ts : List Nat) (m : Option Nat) : Array Value := (Value.int .u64 (D.wd l : Nat) :: (wds ts ++ [Value.map m])).toArray
theorem tc_0 (l : D.Ps) (ts : List Nat) (m : Option Nat) : (tc l ts m)[0]? = some (.int .u64 (D.wd l : Nat)) := by simp [tc]
theorem tc_m (l : D.Ps) {ts : List Nat} (m : Option Nat) (h : ts.length = 64) : (tc l ts m)[65]? = some (.map m) := by
 rw [tc, List.getElem?_toArray, List.getElem?_cons_succ, List.getElem?_append_right (by rw [wds_len]; omega), wds_len, h]
 rfl
structure Cnt (base : Nat) (w : World) (m : Option Nat) (l : D.Ps) : Prop where
 none_ : m = none → ∀ x, D.cn l x = 0
 some_ : ∀ b, m = some b → base ≤ b ∧ ∃ K, MpAt w b K (D.cn l) ∧ ∀ x, x ∈ K ↔ 0 < D.cn l x
structure Tab (base : Nat) (w : World) (g : Nat) (m : Option Nat) (l : D.Ps) : Prop where
 blk : ∃ ts, Blk w g 51 (tc l ts m) ∧ ts.length = 64 ∧ ∀ i t : Nat, l[i]? = some (some t) → ts[i]? = some t
 len : l.length = 64
 lt : ∀ t, some t ∈ l → t < 18446744073709551616
 le : base ≤ g
 cnt : Cnt base w m l
def Tf (g : Nat) (m : Option Nat) (i : Nat) : Prop := i = g ∨ m = some i
section
variable {base g : Nat} {w w' : World} {m : Option Nat} {l : D.Ps}
theorem Cnt.on (h : Cnt base w m l) (hb : Below w.heap.size w w') : Cnt base w' m l := ⟨h.none_, fun b e => let ⟨h1, K, h2, h3⟩ := h.some_ b e; ⟨h1, K, h2.on hb, h3⟩⟩
theorem Tab.on (h : Tab base w g m l) (hb : Below w.heap.size w w') : Tab base w' g m l := ⟨let ⟨ts, h1, h2⟩ := h.blk; ⟨ts, h1.on hb, h2⟩, h.len, h.lt, h.le, h.cnt.on hb⟩
theorem Tab.lt_ (h : Tab base w g m l) : g < w.heap.size := let ⟨_, h1, _⟩ := h.blk; h1.lt
theorem Tab.ge (h : Tab base w g m l) : ∀ i, Tf g m i → base ≤ i
 | _, .inl rfl => h.le
 | i, .inr e => (h.cnt.some_ i e).1
theorem Tab.c0 (h : Tab base w g m l) : w.cell? ⟨g, 0, none⟩ = some (.int .u64 (D.wd l : Nat)) := by
 obtain ⟨ts, hB, _⟩ := h.blk
 rw [hB.c, tc_0]
theorem Tab.cm (h : Tab base w g m l) : w.cell? ⟨g, 65, none⟩ = some (.map m) := by
 obtain ⟨ts, hB, hl, _⟩ := h.blk
 rw [hB.c, tc_m _ _ hl]
theorem Tab.f (h : Tab base w g m l) (i : Nat) : w.frozen? ⟨g, i, none⟩ = false := by
 obtain ⟨ts, hB, _⟩ := h.blk
 exact hB.f i
end
theorem tab_new (base : Nat) (w : World) (hb : base ≤ w.heap.size) : Tab base (w.alloc (.cells (tc (List.replicate 64 none) (List.replicate 64 0) none) 51)) w.heap.size none (List.replicate 64 none) :=
 ⟨⟨_, Blk.new _ _ _, by simp, fun i t h => by rw [List.getElem?_replicate] at h; split at h <;> simp at h⟩, by simp, fun t h => by simp at h, hb, ⟨fun _ x => by simp [D.cn, List.count_replicate], fun b e => by cases e⟩⟩
theorem word_any {base g : Nat} {w : World} {m : Option Nat} {l : D.Ps} (h : Tab base w g m l) : Calls Tryz.prog 96 #[.pointer (some ⟨g, 0, none⟩)] w fun e w' => e = .returned (.int .u64 (D.wd l : Nat)) ∧ w = w' := by
 have c0 := h.c0
 clear h
 go_enter Tryz.func96, Tryz.ntmps96
 go_wp2
 go_ret
 exact ⟨rfl, rfl⟩
theorem counts_any {base g : Nat} {w : World} {m : Option Nat} {l : D.Ps} (h : Tab base w g m l) : Calls Tryz.prog 77 #[.pointer (some ⟨g, 0, none⟩)] w fun e w' => e = .returned (.map m) ∧ w = w' := by
 have c0 := h.cm
 clear h
 go_enter Tryz.func77, Tryz.ntmps77
 go_wp2
 go_ret
 exact ⟨rfl, rfl⟩
theorem counts_nil (w : World) : Calls Tryz.prog 77 #[.pointer none] w fun e w' => e = .returned (.map none) ∧ w = w' := by
 go_enter Tryz.func77, Tryz.ntmps77
 go_wp2
 go_ret
 exact ⟨rfl, rfl⟩
def D.pn (l : D.Ps) (i : Int) : Option Nat := if 0 ≤ i then l.getD i.toNat none else none
theorem D.pn_no {l : D.Ps} {i : Int} (hl : l.length = 64) (h : ¬ (0 ≤ i ∧ i < 64)) : D.pn l i = none := by
 unfold D.pn
 split
 ·rw [List.getD_eq_getElem?_getD, List.getElem?_eq_none (by omega)]; rfl
 ·rfl
theorem D.pn_at (l : D.Ps) (k : Nat) : D.pn l (k : Int) = l.getD k none := by
 unfold D.pn; rw [if_pos (by omega)]; rfl
set_option maxHeartbeats 1000000 in
theorem has_any {base g : Nat} {w : World} {m : Option Nat} {l : D.Ps} (h : Tab base w g m l) (i : Int) (h1 : -9223372036854775808 ≤ i) (h2 : i ≤ 9223372036854775807) : Calls Tryz.prog 57 #[.pointer (some ⟨g, 0, none⟩), .int .i64 i] w fun e w' => e = .returned (.bool (D.pn l i).isSome) ∧ w = w' := by
 have CW := Lib.hid (word_any h)
 have hl := h.len
 have hw := D.wd_lt l
 rw [hl] at hw
 by_cases h0 : 0 ≤ i ∧ i < 64
 ·obtain ⟨k, rfl⟩ : ∃ k : Nat, i = k := ⟨i.toNat, by omega⟩
  have hs := D.wd_shift l k
  rw [D.pn_at]
  obtain ⟨b, hb⟩ : ∃ b, (l.getD k none).isSome = b := ⟨_, rfl⟩
  rw [hb] at hs ⊢
  obtain ⟨u, hu⟩ : ∃ u, D.wd l = u := ⟨_, rfl⟩
  rw [hu] at hs hw CW
  have j0 : (0 : Int) ≤ (k : Int) := by omega
  have j1 : (k : Int) < 64 := by omega
  have HS := Lib.hid hs
  have HA : Hid (bits .and .u64 ((u : Int) / 2 ^ k) 1 = ((u / 2 ^ k % 2 : Nat) : Int)) := Lib.hid (by
   have hq : u / 2 ^ k < 18446744073709551616 := Nat.lt_of_le_of_lt (Nat.div_le_self _ _) hw
   rw [cast_div_pow]
   have := bits_and_u64_nat (u / 2 ^ k) 1 hq (by decide)
   rw [Nat.and_one_is_mod] at this
   exact this)
  clear h hs hb hu h0
  go_enter Tryz.func57, Tryz.ntmps57
  go_wp2_with (first
   | (go_at_call 96; (with_reducible refine CW.out.mono ?_); rintro e w1 ⟨rfl, rfl⟩)
   | fail)
  go_ret
  refine ⟨bool_of ?_, rfl⟩
  rw [HA.out, HS.out]
  cases b <;> rfl
 ·rw [D.pn_no hl h0]
  clear h hw
  rcases Int.lt_or_le i 0 with h3 | h3
  ·have h4 : ¬ (0 ≤ i) := by omega
   go_enter Tryz.func57, Tryz.ntmps57
   go_wp2_with (first
    | (go_at_call 96; (with_reducible refine CW.out.mono ?_); rintro e w1 ⟨rfl, rfl⟩)
    | fail)
   go_ret
   exact ⟨rfl, rfl⟩
  ·have h4 : ¬ (i < 64) := by omega
   go_enter Tryz.func57, Tryz.ntmps57
   go_wp2_with (first
    | (go_at_call 96; (with_reducible refine CW.out.mono ?_); rintro e w1 ⟨rfl, rfl⟩)
    | fail)
   go_ret
   exact ⟨rfl, rfl⟩
end Pn
end Go.Proofs.YtjlaffgbmcpldaaGreatDoor
