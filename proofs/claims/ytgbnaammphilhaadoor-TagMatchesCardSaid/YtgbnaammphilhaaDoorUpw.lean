/-
  A tag's chain, given by a function that is ranged over: the iterator's word.
-/
import Derived.Test.YtgbnaammphilhaaDoorPnt
import Derived.RangeFuncNested
import Derived.RangeFuncBound
import Derived.RangeFuncCalls
import Derived.RangeFuncLeaves
import Derived.RangeFuncBox
import Derived.Shelf.Abstract
import Derived.Shelf.RegionOpen
import Derived.WalkKit
import Derived.OwnWalkIn
import Derived.TacticsInMore
import Derived.LoopNIn
import Derived.LoopIn
set_option linter.unusedVariables false
set_option linter.unusedSimpArgs false
namespace Go.Proofs.YtgbnaammphilhaaDoor
open Go.RowKit Go.Shelf
attribute [local go_sem] Oper.semAt_some
attribute [local go_sem ↓] Go.wp_at_zero Go.wp_at_succ ld_a ld_n st_a st_n eq_a eq_n ne_a ne_n bsl_n lv_a lv_n lp_3 lp_4
attribute [local go_sem] run_ld_a run_ld_n run_sw_a run_sw_n run_eq_a run_eq_n run_ne_a run_ne_n run_bsl1_n run_lv_a run_lv_n st_z ne_z eq_z rd_new rd_old rd_drew rd_drewN rd_set tn_new tn_old tn_drew tn_drewN setRow_alloc run_lp_3 run_lp_4

/-- What a round that goes on keeps: the variables of tags. -/
def KpT (W W' : World) : Prop := ∀ (b : Nat) (cs : Array Value), W.heap[b]? = some (.cells cs 29 (0, 0)) → cs.size = 10 → W'.heap[b]? = W.heap[b]?
theorem kpT_t {A B C : World} (h : KpT A B) (k : KpT B C) : KpT A C := fun b cs hb hs => by
  have e1 := h b cs hb hs
  rw [← e1] at hb
  rw [← e1]
  exact k b cs hb hs
theorem kpT_b {w : World} (W : World) (l : Nat) (o o' : Obj) (_ : w.heap.size ≤ l) (h : W.heap[l]? = some o) (ho : o.isCells = false) (_ : o.isWalk = false) : KpT W (W.putObj l o') := fun b cs hb hs => by
  by_cases e : b = l
  · subst e
    rw [hb] at h
    injection h with h
    subst h
    cases ho
  · exact World.putObj_heap_other e
theorem grown_none {W W' : World} (h : Below W.heap.size W W') : W.grownBy W' none := ⟨h.os, h.tape, h.output, h.size, fun k hk _ => h.block k hk⟩
theorem upwards_any (x : D.Tg) (w : World) : Calls Tryd.prog 38 #[.agg (nc x)] w fun e w' => e = .returned (.func (.func 54) #[] #[.pointer (some ⟨w.heap.size, 0, none⟩)]) ∧ w' = w.alloc (.cells (nc x) 29) := by
  go_enter Tryd.func38, Tryd.ntmps38
  go_wp2
  go_ret
  exact ⟨rfl, rfl⟩
/-- How many are still to come. -/
noncomputable def ml (wr : World) (p b : Value) : Nat := match b, p with
  | .bool true, .pointer (some a) => (D.cht ((rd wr a).getD D.zero)).length
  | _, _ => 0
/-- A tag's parent is the next of its chain. -/
theorem cht_next {x : D.Tg} (h : D.right x = true) : D.cht x = x :: (if (D.tpar x).2 then D.cht (D.tpar x).1 else []) ∧ ((D.tpar x).2 = true → D.right (D.tpar x).1 = true) := by
  unfold D.right at h
  cases hp : D.pt x with
  | none => rw [hp] at h; cases h
  | some p =>
    obtain ⟨hc, htb⟩ := D.pt_some hp
    subst htb
    unfold D.tpar
    rw [hp, D.cht_tb hc]
    cases hq : D.par p with
    | none =>
      have := D.par_none.1 hq
      subst this
      refine ⟨rfl, ?_⟩
      simp only [hq]
      exact fun h => by cases h
    | some q =>
      have hcq := D.can_par hc hq
      simp only [hq, if_true]
      refine ⟨?_, fun _ => ?_⟩
      · rw [D.chain_par hc hq, D.cht_tb hcq]; rfl
      · unfold D.right; rw [D.pt_tb hcq]; rfl
theorem cht_none {x : D.Tg} (h : D.right x = false) : D.cht x = [] := by
  unfold D.right at h
  cases hp : D.pt x with
  | none => exact D.cht_no hp
  | some p => rw [hp] at h; cases h
/-- The chain's state: what has come, and what is next. -/
structure Ch (x : D.Tg) (W : World) (g : Nat) (y : D.Tg) (b : Bool) (pre : List D.Tg) : Prop where
  rd : rd W ⟨g, 0, none⟩ = some y
  blk : Blk W g 29 (nc y)
  right : b = true → D.right y = true
  all : D.cht x = pre ++ (if b then D.cht y else [])
set_option maxRecDepth 100000 in
set_option maxHeartbeats 4000000 in
theorem upw_in (n : Nat) (hn : 4 ≤ n) (l Bt : Nat) (x : D.Tg) (J Jx : List D.Tg → World → Prop)
    (W : World) (hBt : rd W ⟨Bt, 0, none⟩ = some x) (hA : AbidesFrom W.heap.size J)
    (hY : ∀ pre y W1, J pre W1 → pre.length < 4 → YieldAt Fence.wide (n - 1) Tryd.prog l #[.agg (nc y)] W1 fun e W' =>
      (e = .returned (.bool true) ∧ J (pre ++ [y]) W' ∧ KpT W1 W') ∨ (e = .returned (.bool false) ∧ Jx (pre ++ [y]) W'))
    (h0 : J [] W) :
    CallsIn Fence.wide n Tryd.prog 54 #[.func (.yield l) #[] #[], .pointer (some ⟨Bt, 0, none⟩)] W fun e W' => (∃ v, e = .returned v) ∧
      ((∃ ys, ys = D.cht x ∧ J ys W') ∨ (∃ pre, pre <+: D.cht x ∧ Jx pre W')) := by
  have cR := Lib.hid (fun w => right_any x w)
  have HY := Lib.hid hY
  have HA := Lib.hid hA
  clear hY hA
  have hn1 : 1 ≤ n - 1 := by omega
  refine callsIn_of_wp Tryd.func54 rfl trivial ?_ rfl
  simp only [Tryd.ntmps54, List.size_toArray, List.length_cons, List.length_nil, Nat.reduceAdd, Nat.reduceSub, Array.replicate_succ, Array.replicate_zero, List.push_toArray, List.append_toArray, List.nil_append, List.cons_append]
  gi_wp2
  refine wpIn_wide.2 ?_
  refine wp_region_noPanic ?_
  refine wp_region_held_drew (S := fun W' => rd W' ⟨Bt, 0, none⟩ = some x) (by kernel_rfl) hBt (fun _ => ?_)
  refine takeS 0 (some 5) ?va0 (by kernel_rfl) (by kernel_rfl) (by kernel_rfl) (by kernel_rfl) (fun _ _ _ h => h) (by rfl) ?hya0 hBt ?resta0
  case hya0 => (intro o ho W hW; simp only [List.getElem?_toArray, List.getElem?_cons_succ, List.getElem?_cons_zero, Option.some.injEq] at ho; subst ho; (try dsimp only at hW); skip; go_simp; try rfl)
  try simp only [Act.put, List.setIfInBounds_toArray, List.set_cons_zero, List.set_cons_succ]
  refine takeS 1 (some 6) ?va1 (by kernel_rfl) (by kernel_rfl) (by kernel_rfl) (by kernel_rfl) (fun _ _ _ h => h) (by rfl) ?hya1 hBt ?resta1
  case hya1 => (intro o ho W hW; simp only [List.getElem?_toArray, List.getElem?_cons_succ, List.getElem?_cons_zero, Option.some.injEq] at ho; subst ho; (try dsimp only at hW); skip; go_simp; try rfl)
  try simp only [Act.put, List.setIfInBounds_toArray, List.set_cons_zero, List.set_cons_succ]
  refine forkS 2 3 (by kernel_rfl) (by rfl) (by rfl) (fun o ho K hK => ?_) (fun o ho K hK => ?_)
  · simp only [List.getElem?_toArray, List.getElem?_cons_succ, List.getElem?_cons_zero, Option.some.injEq] at ho; subst ho
    go_simp
    (go_at_call 13; (with_reducible refine (cR.out _).mono ?_); rintro e w1 ⟨rfl, b1⟩)
    have s1 : rd w1 ⟨Bt, 0, none⟩ = some x := rd_on (show rd W.drew _ = _ from hBt) b1
    refine hK.out _ _ s1 (fun _ => ?_)
    clear hK K
    try simp only [Act.put, List.setIfInBounds_toArray, List.set_cons_zero, List.set_cons_succ]
    refine nextS 3 (by kernel_rfl) (by rfl) (fun o ho K hK => ?_)
    simp only [List.getElem?_toArray, List.getElem?_cons_succ, List.getElem?_cons_zero, Option.some.injEq] at ho; subst ho
    go_simp
    refine hK.out _ _ (by rw [rd_old _ _ _ (rd_lt s1)]; exact s1) (fun _ => ?_)
    clear hK K
    try simp only [Act.put, List.setIfInBounds_toArray, List.set_cons_zero, List.set_cons_succ]
    refine nextS 4 (by kernel_rfl) (by rfl) (fun o ho K hK => ?_)
    simp only [List.getElem?_toArray, List.getElem?_cons_succ, List.getElem?_cons_zero, Option.some.injEq] at ho; subst ho
    go_simp
    refine hK.out _ _ (by rw [rd_old _ _ _ (rd_lt s1)]; exact s1) (fun _ => ?_)
    clear hK K
    try simp only [Act.put, List.setIfInBounds_toArray, List.set_cons_zero, List.set_cons_succ]
    refine takeS 5 (some 4) ?vb5 (by kernel_rfl) (by kernel_rfl) (by kernel_rfl) (by kernel_rfl) (fun _ _ _ h => h) (by rfl) ?hyb5 (by rw [rd_old _ _ _ (rd_lt s1)]; exact s1) ?restb5
    case hyb5 => (intro o ho W hW; simp only [List.getElem?_toArray, List.getElem?_cons_succ, List.getElem?_cons_zero, Option.some.injEq] at ho; subst ho; (try dsimp only at hW); skip; go_simp; try rfl)
    try simp only [Act.put, List.setIfInBounds_toArray, List.set_cons_zero, List.set_cons_succ]
    refine wpAnyH_done (by kernel_rfl) ?_ _
    refine NoPanic.normal ?_
    have bF : Below W.heap.size W (w1.alloc (.cells (nc x) 29)) := (below_on (Below.refl _ _).drew (Nat.le_refl _) b1).alloc b1.size _
    have S0 : Ch x (w1.alloc (.cells (nc x) 29)) w1.heap.size x (D.right x) [] := ⟨rd_new _ _ _ _ rfl, Blk.new _ _ _, fun h => h, by cases h : D.right x <;> simp [cht_none, h]⟩
    have hJ0 := HA.out [] W _ none h0 (grown_none bF) (fun r e => by cases e)
    obtain ⟨Wf, hWf⟩ : ∃ Wf, w1.alloc (.cells (nc x) 29) = Wf := ⟨_, rfl⟩
    rw [hWf] at S0 hJ0
    try rw [hWf]
    clear hWf bF s1 b1 cR
    gi_wp2
    gi_loopw [3, 4] (fun p b wr => ∃ (g : Nat) (y : D.Tg) (bb : Bool) (pre : List D.Tg), p = .pointer (some ⟨g, 0, none⟩) ∧ b = .bool bb ∧ Ch x wr g y bb pre ∧ J pre wr) (fun p b wr => ml wr p b)
    case atStart => exact ⟨_, x, D.right x, [], rfl, rfl, S0, hJ0⟩
    case round =>
      clear S0 hJ0 hBt h0
      obtain ⟨g, y, bb, pre, rfl, rfl, hC, hJ⟩ := hrel
      cases bb with
      | false =>
        have hall := hC.all
        gi_wp2
        refine ⟨fun _ h => (by cases h), ?_⟩
        gi_wp2
        go_end0
        exact ⟨⟨_, rfl⟩, .inl ⟨pre, by simpa using hall.symm, hJ⟩⟩
      | true =>
        have hry := hC.right rfl
        obtain ⟨hnx, hnr⟩ := cht_next hry
        have hall := hC.all
        have hlen : pre.length < 4 := by
          have h4 := D.cht_len x
          rw [hall] at h4
          simp only [if_true, List.length_append] at h4
          rw [hnx] at h4
          simp at h4
          omega
        have hml : ml wr (.pointer (some ⟨g, 0, none⟩)) (.bool true) = (D.cht y).length := by unfold ml; simp only; rw [hC.rd]; rfl
        have HML := Lib.hid hml
        have f0 := hC.rd
        have hB := hC.blk
        have cP := Lib.hid (fun w => parent_any y w)
        have HALL := Lib.hid hall
        have HNX := Lib.hid hnx
        have HNR := Lib.hid hnr
        obtain ⟨fn, tmps, assign, body, hy, hR⟩ := HY.out pre y wr hJ hlen
        clear hall hnx hnr hml hry hC hlen hJ
        obtain ⟨z, hz⟩ : ∃ z, (D.tpar y).1 = z := ⟨_, rfl⟩
        obtain ⟨b', hb'⟩ : ∃ b', (D.tpar y).2 = b' := ⟨_, rfl⟩
        rw [hz, hb'] at cP HNX HNR
        clear hz hb'
        gi_wp2
        refine ⟨fun _ => by omega, hR.mono ?_⟩
        rintro e W3 (⟨rfl, hJ3, hk3⟩ | ⟨rfl, hJx3⟩)
        · have B3 : Blk W3 g 29 (nc y) := ⟨(hk3 g _ hB.out (nc_size y)).trans hB.out⟩
          have f3 := rd_blk B3
          clear hR hy f0 hB hk3 B3
          gi_wp2
          refine ⟨trivial, fun _ => by omega, ?_⟩
          refine (callsIn_wide.2 (cP.out _)).mono ?_
          rintro e w5 ⟨rfl, b5⟩
          have t5 : tn w5 W3.heap.size = true := tn_on (by rw [tn_new _ _ _ _ rfl, nc_size]; rfl) b5
          gi_wp2
          have bB : Blk (w5.setRow W3.heap.size (nc z)) W3.heap.size 29 (nc z) := blk_set ((Blk.new W3 29 (nc y)).on b5)
          have bF : Below W3.heap.size W3 (w5.setRow W3.heap.size (nc z)) := below_setRow (below_on (below_alloc_ _ _) (by simp) b5) (Nat.le_refl _) _
          have hJ5 := HA.out (pre ++ [y]) W3 _ none hJ3 (grown_none bF) (fun r e => by cases e)
          have hr5 := rd_blk bB
          go_roundw
          case rel => exact ⟨W3.heap.size, z, b', pre ++ [y], rfl, rfl, ⟨hr5, bB, HNR.out, by rw [HALL.out, if_pos trivial, HNX.out, List.append_assoc]; rfl⟩, hJ5⟩
          case measure =>
            rw [HML.out, HNX.out]
            unfold ml
            cases b'
            · simp
            · simp [hr5]
        · clear hR hy f0 hB
          gi_wp2
          go_end0
          exact ⟨⟨_, rfl⟩, .inr ⟨pre ++ [y], by rw [HALL.out, if_pos trivial, HNX.out]; exact ⟨_, by rw [List.append_assoc]; rfl⟩, hJx3⟩⟩
  · simp only [List.getElem?_toArray, List.getElem?_cons_succ, List.getElem?_cons_zero, Option.some.injEq] at ho; subst ho
    go_simp
    refine hK.out _ _ (by rw [rd_drew, rd_old _ _ _ (by exact rd_lt hBt)]; exact hBt) (fun _ => ?_)
    clear hK K
    try simp only [Act.put, List.setIfInBounds_toArray, List.set_cons_zero, List.set_cons_succ]
    refine nextS 2 (by kernel_rfl) (by rfl) (fun o ho K hK => ?_)
    simp only [List.getElem?_toArray, List.getElem?_cons_succ, List.getElem?_cons_zero, Option.some.injEq] at ho; subst ho
    go_simp
    (go_at_call 13; (with_reducible refine (cR.out _).mono ?_); rintro e w1 ⟨rfl, b1⟩)
    have s1 : rd w1 ⟨Bt, 0, none⟩ = some x := rd_on (by rw [rd_drew, rd_old _ _ _ (by exact rd_lt hBt)]; exact hBt) b1
    have t1 : tn w1 W.heap.size = true := tn_on (by rw [tn_drew, tn_new _ _ _ _ (by rfl)]; rfl) b1
    refine hK.out _ _ s1 (fun _ => ?_)
    clear hK K
    try simp only [Act.put, List.setIfInBounds_toArray, List.set_cons_zero, List.set_cons_succ]
    refine nextS 4 (by kernel_rfl) (by rfl) (fun o ho K hK => ?_)
    simp only [List.getElem?_toArray, List.getElem?_cons_succ, List.getElem?_cons_zero, Option.some.injEq] at ho; subst ho
    go_simp
    refine hK.out _ _ (by rw [rd_far _ _ _ _ (by have := rd_lt hBt; show Bt ≠ W.heap.size; exact Nat.ne_of_lt this)]; exact s1) (fun _ => ?_)
    clear hK K
    try simp only [Act.put, List.setIfInBounds_toArray, List.set_cons_zero, List.set_cons_succ]
    refine takeS 5 (some 4) ?vc5 (by kernel_rfl) (by kernel_rfl) (by kernel_rfl) (by kernel_rfl) (fun _ _ _ h => h) (by rfl) ?hyc5 (by rw [rd_far _ _ _ _ (by have := rd_lt hBt; show Bt ≠ W.heap.size; exact Nat.ne_of_lt this)]; exact s1) ?restc5
    case hyc5 => (intro o ho W hW; simp only [List.getElem?_toArray, List.getElem?_cons_succ, List.getElem?_cons_zero, Option.some.injEq] at ho; subst ho; (try dsimp only at hW); skip; go_simp; try rfl)
    try simp only [Act.put, List.setIfInBounds_toArray, List.set_cons_zero, List.set_cons_succ]
    refine wpAnyH_done (by kernel_rfl) ?_ _
    refine NoPanic.normal ?_
    have bF : Below W.heap.size W (w1.setRow W.heap.size (nc x)) := below_setRow (below_on (below_alloc_ W _).drew (by simp) b1) (Nat.le_refl _) _
    have bB : Blk (w1.setRow W.heap.size (nc x)) W.heap.size 29 (nc x) := blk_set ((Blk.new W 29 z10).drew.on b1)
    have S0 : Ch x (w1.setRow W.heap.size (nc x)) W.heap.size x (D.right x) [] := ⟨rd_blk bB, bB, fun h => h, by cases h : D.right x <;> simp [cht_none, h]⟩
    have hJ0 := HA.out [] W _ none h0 (grown_none bF) (fun r e => by cases e)
    obtain ⟨Wf, hWf⟩ : ∃ Wf, w1.setRow W.heap.size (nc x) = Wf := ⟨_, rfl⟩
    rw [hWf] at S0 hJ0
    try rw [hWf]
    clear hWf bF bB s1 t1 b1 cR
    gi_wp2
    gi_loopw [3, 4] (fun p b wr => ∃ (g : Nat) (y : D.Tg) (bb : Bool) (pre : List D.Tg), p = .pointer (some ⟨g, 0, none⟩) ∧ b = .bool bb ∧ Ch x wr g y bb pre ∧ J pre wr) (fun p b wr => ml wr p b)
    case atStart => exact ⟨_, x, D.right x, [], rfl, rfl, S0, hJ0⟩
    case round =>
      clear S0 hJ0 hBt h0
      obtain ⟨g, y, bb, pre, rfl, rfl, hC, hJ⟩ := hrel
      cases bb with
      | false =>
        have hall := hC.all
        gi_wp2
        refine ⟨fun _ h => (by cases h), ?_⟩
        gi_wp2
        go_end0
        exact ⟨⟨_, rfl⟩, .inl ⟨pre, by simpa using hall.symm, hJ⟩⟩
      | true =>
        have hry := hC.right rfl
        obtain ⟨hnx, hnr⟩ := cht_next hry
        have hall := hC.all
        have hlen : pre.length < 4 := by
          have h4 := D.cht_len x
          rw [hall] at h4
          simp only [if_true, List.length_append] at h4
          rw [hnx] at h4
          simp at h4
          omega
        have hml : ml wr (.pointer (some ⟨g, 0, none⟩)) (.bool true) = (D.cht y).length := by unfold ml; simp only; rw [hC.rd]; rfl
        have HML := Lib.hid hml
        have f0 := hC.rd
        have hB := hC.blk
        have cP := Lib.hid (fun w => parent_any y w)
        have HALL := Lib.hid hall
        have HNX := Lib.hid hnx
        have HNR := Lib.hid hnr
        obtain ⟨fn, tmps, assign, body, hy, hR⟩ := HY.out pre y wr hJ hlen
        clear hall hnx hnr hml hry hC hlen hJ
        obtain ⟨z, hz⟩ : ∃ z, (D.tpar y).1 = z := ⟨_, rfl⟩
        obtain ⟨b', hb'⟩ : ∃ b', (D.tpar y).2 = b' := ⟨_, rfl⟩
        rw [hz, hb'] at cP HNX HNR
        clear hz hb'
        gi_wp2
        refine ⟨fun _ => by omega, hR.mono ?_⟩
        rintro e W3 (⟨rfl, hJ3, hk3⟩ | ⟨rfl, hJx3⟩)
        · have B3 : Blk W3 g 29 (nc y) := ⟨(hk3 g _ hB.out (nc_size y)).trans hB.out⟩
          have f3 := rd_blk B3
          clear hR hy f0 hB hk3 B3
          gi_wp2
          refine ⟨trivial, fun _ => by omega, ?_⟩
          refine (callsIn_wide.2 (cP.out _)).mono ?_
          rintro e w5 ⟨rfl, b5⟩
          have t5 : tn w5 W3.heap.size = true := tn_on (by rw [tn_new _ _ _ _ rfl, nc_size]; rfl) b5
          gi_wp2
          have bB : Blk (w5.setRow W3.heap.size (nc z)) W3.heap.size 29 (nc z) := blk_set ((Blk.new W3 29 (nc y)).on b5)
          have bF : Below W3.heap.size W3 (w5.setRow W3.heap.size (nc z)) := below_setRow (below_on (below_alloc_ _ _) (by simp) b5) (Nat.le_refl _) _
          have hJ5 := HA.out (pre ++ [y]) W3 _ none hJ3 (grown_none bF) (fun r e => by cases e)
          have hr5 := rd_blk bB
          go_roundw
          case rel => exact ⟨W3.heap.size, z, b', pre ++ [y], rfl, rfl, ⟨hr5, bB, HNR.out, by rw [HALL.out, if_pos trivial, HNX.out, List.append_assoc]; rfl⟩, hJ5⟩
          case measure =>
            rw [HML.out, HNX.out]
            unfold ml
            cases b'
            · simp
            · simp [hr5]
        · clear hR hy f0 hB
          gi_wp2
          go_end0
          exact ⟨⟨_, rfl⟩, .inr ⟨pre ++ [y], by rw [HALL.out, if_pos trivial, HNX.out]; exact ⟨_, by rw [List.append_assoc]; rfl⟩, hJx3⟩⟩
end Go.Proofs.YtgbnaammphilhaaDoor
