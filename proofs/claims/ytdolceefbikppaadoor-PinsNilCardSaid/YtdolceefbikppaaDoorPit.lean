/-
  A map of numbers by times, key by key: what maps.Keys hands back is ranged over.
-/
import Derived.Test.YtdolceefbikppaaDoorPmp
import Derived.Test.YtdolceefbikppaaDoorChu
import Derived.Maps.OwnIn
set_option linter.unusedVariables false
set_option linter.unusedSimpArgs false
set_option maxRecDepth 100000
namespace Go.Proofs.YtdolceefbikppaaDoor
open Go.RowKit Go.Shelf
attribute [local go_sem] Oper.semAt_some
attribute [local go_sem ↓] Go.wp_at_zero Go.wp_at_succ
theorem perm_same : ∀ {k L : List Nat}, k.Nodup → L.Nodup → (∀ x, x ∈ k ↔ x ∈ L) → k.Perm L
  | [], L, _, _, h => by
    cases L with
    | nil => exact .refl _
    | cons y L => exact absurd ((h y).2 (List.mem_cons_self ..)) (by simp)
  | x :: k, L, hk, hL, h => by
    obtain ⟨s, t, rfl⟩ := List.append_of_mem ((h x).1 (List.mem_cons_self ..))
    have hp : (s ++ x :: t).Perm (x :: (s ++ t)) := List.perm_middle
    have hn := hp.nodup_iff.1 hL
    have hx := (List.nodup_cons.1 hn).1
    have hx' := (List.nodup_cons.1 hk).1
    refine .trans ?_ hp.symm
    refine .cons x (perm_same (List.nodup_cons.1 hk).2 (List.nodup_cons.1 hn).2 fun y => ?_)
    have hy := (h y).trans hp.mem_iff
    simp only [List.mem_cons] at hy
    by_cases e : y = x
    · subst e
      exact ⟨fun h => absurd h hx', fun h => absurd h hx⟩
    · simpa [e] using hy
theorem key_back {v : Value} {l : Lit} (h : keyOf Tryd.prog 23 v = some l) : ∃ x : Nat, x < 18446744073709551616 ∧ v = .int .u64 (x : Nat) ∧ l = kl x := by
  obtain ⟨z, rfl, rfl, hw⟩ := Maps.keyOf_int_inv Tryd.underlying23 h
  have hb : 0 ≤ z ∧ z < 18446744073709551616 := by
    simp [Lit.wf, IntKind.min, IntKind.max, IntKind.signed, IntKind.bits] at hw
    omega
  obtain ⟨x, rfl⟩ : ∃ x : Nat, z = x := ⟨z.toNat, by omega⟩
  exact ⟨x, by omega, rfl, rfl⟩
/-- Which keys are still to come. -/
structure Left (L ks : List Nat) (left : Lit → Bool) (cnt : Nat) : Prop where
  at_ : ∀ x, x < 18446744073709551616 → left (kl x) = decide (x ∈ L ∧ x ∉ ks)
  nodup : ks.Nodup
  sub : ∀ x ∈ ks, x ∈ L
  le : ks.length + cnt ≤ L.length
theorem Left.next {L ks : List Nat} {left : Lit → Bool} {cnt cnt' : Nat} (h : Left L ks left cnt) {x : Nat} (hx : x < 18446744073709551616) (hl : left (kl x) = true) (hc : cnt' < cnt) :
    Left L (ks ++ [x]) (fun z => left z && !z.sameKey (kl x)) cnt' := by
  rw [h.at_ x hx] at hl
  obtain ⟨h1, h2⟩ := of_decide_eq_true hl
  refine ⟨fun y hy => ?_, ?_, ?_, by have := h.le; simp; omega⟩
  · by_cases e : y = x
    · subst e
      rw [WideAt.sameKey_self (kl_key hy)]
      simp
    · rw [Maps.sameKey_ne (fun e' => e (kl_inj e')), h.at_ y hy]
      simp [e]
  · exact (List.perm_append_singleton x ks).nodup_iff.2 (List.nodup_cons.2 ⟨h2, h.nodup⟩)
  · intro y hy
    rcases List.mem_append.1 hy with hy | hy
    · exact h.sub y hy
    · rw [List.mem_singleton.1 hy]; exact h1
theorem Left.all {L ks : List Nat} {left : Lit → Bool} {cnt : Nat} (h : Left L ks left cnt) (hL : L.Nodup) (hok : ∀ x ∈ L, x < 18446744073709551616) (h0 : ∀ l, left l = false) : ks.Perm L :=
  perm_same h.nodup hL fun x => ⟨h.sub x, fun hx => by
    have := h.at_ x (hok x hx)
    rw [h0] at this
    have h' := of_decide_eq_false this.symm
    exact Classical.byContradiction fun hn => h' ⟨hx, hn⟩⟩
set_option maxHeartbeats 4000000 in
theorem ukeys_in (n : Nat) (hn : 1 ≤ n) (l Bm b : Nat) (L : List Nat) (J Jx : List Nat → World → Prop) (W : World) (hA : AbidesFrom W.heap.size J)
    (hY : ∀ pre x W1, J pre W1 → pre.length < L.length → YieldAt Fence.wide (n - 1) Tryd.prog l #[.int .u64 (x : Nat)] W1 fun e W' =>
      (e = .returned (.bool true) ∧ J (pre ++ [x]) W' ∧ KeepsWalks W1 W') ∨ (e = .returned (.bool false) ∧ Jx (pre ++ [x]) W'))
    (hm : W.cell? ⟨Bm, 0, none⟩ = some (.map (some b))) {f : Nat → Nat} (hu : MpAt W b L f) (h0 : J [] W) :
    CallsIn Fence.wide n Tryd.prog 31 #[.func (.yield l) #[] #[], .pointer (some ⟨Bm, 0, none⟩)] W fun e W' => (∃ v, e = .returned v) ∧
      ((∃ ss : List Nat, ss.Perm L ∧ J ss W') ∨ (∃ pre, Jx pre W')) := by
  obtain ⟨Dm, hown, hhas, -, hsz⟩ := hu.out
  have hL := hu.nodup
  have hok := hu.lt
  have HY := Lib.hid hY
  have HA := Lib.hid hA
  clear hY hA
  refine callsIn_of_wp Tryd.func31 rfl trivial ?_ rfl
  simp only [Tryd.ntmps31, List.size_toArray, List.length_cons, List.length_nil, Nat.reduceAdd, Nat.reduceSub, Array.replicate_succ, Array.replicate_zero, List.push_toArray, List.append_toArray, List.nil_append, List.cons_append]
  gi_wp2_with (first
    | (gi_at_range; refine wpListIn_range_own _ rfl _ 25 rfl 23 3 law_w Tryd.underlying25 _ b L.length _ rfl hown ?_; intro w0 hrg0 hg0 hs0)
    | gi_in)
  go_frame
  gi_loopw [3] (fun _ wr => ∃ (left : Lit → Bool) (cnt : Nat) (ss : List Nat), wr.ranges Tryd.prog 23 (plainElem Tryd.prog 3) b W.heap.size L.length Dm left cnt ∧ Left L ss left cnt ∧ J ss wr)
    (fun _ wr => wr.rangeLeft b W.heap.size)
  case atStart =>
    exact ⟨_, _, [], hrg0, ⟨fun x hx => by rw [hhas x hx]; simp, List.nodup_nil, (fun x h => by cases h), by simp [hsz]⟩, HA.out [] W w0 none h0 hg0 (fun r e => by cases e)⟩
  case round =>
    obtain ⟨left, cnt, ss, hrg, hC, hJs⟩ := hrel
    gi_wp2_with (first
      | (gi_at_next; refine wpListIn_next_ranges _ rfl _ rfl 23 law_w (plainElem Tryd.prog 3) (fun x : Nat => .int .u64 (x : Nat)) id (fun key kl hk => let ⟨x, _, h, _⟩ := key_back hk; ⟨x, h⟩) (fun v _ _ => ⟨v, rfl⟩) b W.heap.size L.length _ _ _ rfl hrg ?_ ?_)
      | gi_in)
    · intro hc0 hl0
      gi_wp2
      go_end0
      exact ⟨⟨_, rfl⟩, .inl ⟨ss, hC.all hL hok hl0, hJs⟩⟩
    · intro x c kl yd yp w2 cnt2 hkey hlk hv hat hrg2 hlt hg2 hs2 hen
      have hJ2 : J ss w2 := HA.out ss wr w2 (some W.heap.size) hJs hg2 (fun r e => by cases e; exact ⟨Nat.le_refl _, hrg.iter_walk⟩)
      obtain ⟨x', hx', ex, rfl⟩ := key_back hkey
      obtain rfl : x = x' := by injection ex with _ ex; omega
      have hC2 := hC.next hx' hlk hlt
      have hlen : ss.length < L.length := by have := hC2.le; simp at this; omega
      obtain ⟨fn, tmps, assign, body, hy, hR⟩ := HY.out ss x _ hJ2 hlen
      clear hs2
      gi_wp2
      refine hR.mono ?_
      rintro e W3 (⟨rfl, hJ4, hk3⟩ | ⟨rfl, hJx3⟩)
      · gi_wp2
        have hrg3 := hrg2.of_walks hk3
        go_roundw
        case rel => exact ⟨_, cnt2, ss ++ [x], hrg3, hC2, hJ4⟩
        case measure => rw [hrg3.left_eq, hrg.left_eq]; exact hlt
      · gi_wp2
        refine bodyPost_ret (results_none rfl _ _ _) rfl ?_
        exact ⟨⟨_, rfl⟩, .inr ⟨ss ++ [x], hJx3⟩⟩
theorem ukeys_stops (n : Nat) (hn : 1 ≤ n) (Bm b : Nat) (L : List Nat) (w : World) (hBm : Bm < w.heap.size) (hm : w.cell? ⟨Bm, 0, none⟩ = some (.map (some b))) {f : Nat → Nat} (hu : MpAt w b L f) :
    SeqStopsK Fence.wide n Tryd.prog 31 #[.pointer (some ⟨Bm, 0, none⟩)] (fun x : Nat => #[.int .u64 (x : Nat)]) KeepsWalks (fun ss => ss.Perm L) (fun _ => True) L.length w := fun l J Jx W hW hJ _ hY h0 =>
  (ukeys_in n hn l Bm b L J Jx W hJ hY ((hW.cell (p := ⟨Bm, 0, none⟩) hBm).trans hm) (hu.on hW) h0).mono fun e W' ⟨h1, h2⟩ => ⟨h1, h2.elim .inl fun ⟨pre, h⟩ => .inr ⟨pre, trivial, h⟩⟩
end Go.Proofs.YtdolceefbikppaaDoor
