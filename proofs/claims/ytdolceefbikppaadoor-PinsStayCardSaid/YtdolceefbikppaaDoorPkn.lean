/-
  The chapter's example.
-/
import Derived.Test.YtdolceefbikppaaDoorPsr
import Derived.Test.YtdolceefbikppaaDoorPun
set_option linter.unusedVariables false
set_option linter.unusedSimpArgs false
set_option maxRecDepth 100000
namespace Go.Proofs.YtdolceefbikppaaDoor
open Go.RowKit
attribute [local go_sem ↓] Go.wp_at_zero Go.wp_at_succ
theorem tab_zero (base : Nat) (w : World) (hb : base ≤ w.heap.size) : Tab base (w.alloc (.cells #[.int .u64 0, .int .u64 0, .int .u64 0, .int .u64 0, .int .u64 0, .int .u64 0, .int .u64 0, .int .u64 0, .int .u64 0, .int .u64 0, .int .u64 0, .int .u64 0, .int .u64 0, .int .u64 0, .int .u64 0, .int .u64 0, .int .u64 0, .int .u64 0, .int .u64 0, .int .u64 0, .int .u64 0, .int .u64 0, .int .u64 0, .int .u64 0, .int .u64 0, .int .u64 0, .int .u64 0, .int .u64 0, .int .u64 0, .int .u64 0, .int .u64 0, .int .u64 0, .int .u64 0, .int .u64 0, .int .u64 0, .int .u64 0, .int .u64 0, .int .u64 0, .int .u64 0, .int .u64 0, .int .u64 0, .int .u64 0, .int .u64 0, .int .u64 0, .int .u64 0, .int .u64 0, .int .u64 0, .int .u64 0, .int .u64 0, .int .u64 0, .int .u64 0, .int .u64 0, .int .u64 0, .int .u64 0, .int .u64 0, .int .u64 0, .int .u64 0, .int .u64 0, .int .u64 0, .int .u64 0, .int .u64 0, .int .u64 0, .int .u64 0, .int .u64 0, .int .u64 0, .map none] 27)) w.heap.size none (List.replicate 64 none) := tab_new base w hb
theorem zero_tab (W : World) : (zeroValue 27).run Tryd.prog W = .ok (.agg #[.int .u64 0, .int .u64 0, .int .u64 0, .int .u64 0, .int .u64 0, .int .u64 0, .int .u64 0, .int .u64 0, .int .u64 0, .int .u64 0, .int .u64 0, .int .u64 0, .int .u64 0, .int .u64 0, .int .u64 0, .int .u64 0, .int .u64 0, .int .u64 0, .int .u64 0, .int .u64 0, .int .u64 0, .int .u64 0, .int .u64 0, .int .u64 0, .int .u64 0, .int .u64 0, .int .u64 0, .int .u64 0, .int .u64 0, .int .u64 0, .int .u64 0, .int .u64 0, .int .u64 0, .int .u64 0, .int .u64 0, .int .u64 0, .int .u64 0, .int .u64 0, .int .u64 0, .int .u64 0, .int .u64 0, .int .u64 0, .int .u64 0, .int .u64 0, .int .u64 0, .int .u64 0, .int .u64 0, .int .u64 0, .int .u64 0, .int .u64 0, .int .u64 0, .int .u64 0, .int .u64 0, .int .u64 0, .int .u64 0, .int .u64 0, .int .u64 0, .int .u64 0, .int .u64 0, .int .u64 0, .int .u64 0, .int .u64 0, .int .u64 0, .int .u64 0, .int .u64 0, .map none]) W := by kernel_rfl
theorem add_sc (a : Addr) (k : Nat) : a.add (k + 1) = ⟨a.block, a.off + (k + 1), none⟩ := by unfold Addr.add; simp
theorem row_one (W : World) (z : Int) : Row (W.alloc (.cells #[.int .i64 z] 3)) (some ⟨W.heap.size, 0, none⟩) 1 (zs [z]) := ⟨rfl, fun _ => ⟨_, rfl, by simp, fun j u hu => by
  have hj : j = 0 := by have := (List.getElem?_eq_some_iff.1 hu).1; simp [zs] at this; omega
  subst hj
  simp [zs] at hu
  subst hu
  exact (Blk.new W 3 #[.int .i64 z]).cell⟩⟩
theorem srtd_two {K ys : List Nat} (hK : K.Nodup) (hm : ∀ x, x ∈ K ↔ x = 3 ∨ x = 7) (h : Srtd K ys) : ys = [3, 7] := by
  have hp : K.Perm [3, 7] := perm_same hK (by decide) (fun x => by rw [hm x]; simp)
  have hl : ys.length = 2 := by rw [h.len, hp.length_eq]; rfl
  match ys, hl with
  | [a, b], _ =>
    have h1 : a ≤ b := by have := h.rise 0 1 (by omega) (by simp); simpa using this
    have m3 := (h.mem 3).2 ((hm 3).2 (.inl rfl))
    have m7 := (h.mem 7).2 ((hm 7).2 (.inr rfl))
    simp at m3 m7
    have ea : a = 3 := by omega
    have eb : b = 7 := by omega
    rw [ea, eb]
theorem TabTo.bel {base g : Nat} {w w' : World} {m : Option Nat} {l l' : D.Ps} (h : TabTo base w g m l w') (k : Tab base w g m l') (hb : base ≤ w.heap.size) : Below base w w' := let ⟨_, _, _, h3⟩ := h; h3.below hb k.ge
def D.l0 : D.Ps := List.replicate 64 none
def D.l1 : D.Ps := some 7 :: List.replicate 63 none
def D.l2 : D.Ps := some 7 :: some 3 :: List.replicate 62 none
def D.l3 : D.Ps := some 7 :: some 3 :: some 7 :: List.replicate 61 none
def D.l4 : D.Ps := none :: some 3 :: some 7 :: List.replicate 61 none
theorem D.cn_l3 (x : Nat) : 0 < D.cn D.l3 x ↔ x = 3 ∨ x = 7 := by
  rw [D.cn_pos]
  simp [D.l3]
  omega
set_option maxHeartbeats 4000000 in
theorem known_any (w : World) (hE : Env w) : Calls Tryd.prog 12 #[] w fun e w' => e = .returned (.bool true) ∧ Below w.heap.size w w' := by
  have HE : Hid (∀ W, Below w.heap.size w W → Env W) := Lib.hid fun W hW => hE.on hW
  obtain ⟨g, hg⟩ : ∃ g, w.heap.size = g := ⟨_, rfl⟩
  have t0 := tab_zero g w (by omega)
  have b0 := below_alloc_ w (.cells #[.int .u64 0, .int .u64 0, .int .u64 0, .int .u64 0, .int .u64 0, .int .u64 0, .int .u64 0, .int .u64 0, .int .u64 0, .int .u64 0, .int .u64 0, .int .u64 0, .int .u64 0, .int .u64 0, .int .u64 0, .int .u64 0, .int .u64 0, .int .u64 0, .int .u64 0, .int .u64 0, .int .u64 0, .int .u64 0, .int .u64 0, .int .u64 0, .int .u64 0, .int .u64 0, .int .u64 0, .int .u64 0, .int .u64 0, .int .u64 0, .int .u64 0, .int .u64 0, .int .u64 0, .int .u64 0, .int .u64 0, .int .u64 0, .int .u64 0, .int .u64 0, .int .u64 0, .int .u64 0, .int .u64 0, .int .u64 0, .int .u64 0, .int .u64 0, .int .u64 0, .int .u64 0, .int .u64 0, .int .u64 0, .int .u64 0, .int .u64 0, .int .u64 0, .int .u64 0, .int .u64 0, .int .u64 0, .int .u64 0, .int .u64 0, .int .u64 0, .int .u64 0, .int .u64 0, .int .u64 0, .int .u64 0, .int .u64 0, .int .u64 0, .int .u64 0, .int .u64 0, .map none] 27)
  rw [hg] at t0 b0 HE
  have hs : Hid (∀ W : World, Below g w W → g ≤ W.heap.size) := Lib.hid fun W h => by have := h.size; omega
  obtain ⟨W0, hW0⟩ : ∃ W0, w.alloc (.cells #[.int .u64 0, .int .u64 0, .int .u64 0, .int .u64 0, .int .u64 0, .int .u64 0, .int .u64 0, .int .u64 0, .int .u64 0, .int .u64 0, .int .u64 0, .int .u64 0, .int .u64 0, .int .u64 0, .int .u64 0, .int .u64 0, .int .u64 0, .int .u64 0, .int .u64 0, .int .u64 0, .int .u64 0, .int .u64 0, .int .u64 0, .int .u64 0, .int .u64 0, .int .u64 0, .int .u64 0, .int .u64 0, .int .u64 0, .int .u64 0, .int .u64 0, .int .u64 0, .int .u64 0, .int .u64 0, .int .u64 0, .int .u64 0, .int .u64 0, .int .u64 0, .int .u64 0, .int .u64 0, .int .u64 0, .int .u64 0, .int .u64 0, .int .u64 0, .int .u64 0, .int .u64 0, .int .u64 0, .int .u64 0, .int .u64 0, .int .u64 0, .int .u64 0, .int .u64 0, .int .u64 0, .int .u64 0, .int .u64 0, .int .u64 0, .int .u64 0, .int .u64 0, .int .u64 0, .int .u64 0, .int .u64 0, .int .u64 0, .int .u64 0, .int .u64 0, .int .u64 0, .map none] 27) = W0 := ⟨_, rfl⟩
  rw [hW0] at t0 b0
  have CP : Hid (∀ (W : World) (m : Option Nat) (l : D.Ps), Tab g W g m l → Below g w W → ∀ t, t < 18446744073709551616 → Calls Tryd.prog 10 #[.pointer (some ⟨g, 0, none⟩), .int .u64 (t : Nat)] W fun e w' => e = .returned (.tuple #[.int .i64 (D.pid l : Nat), .int .i64 (D.per l : Nat)]) ∧ (∃ m', Tab g w' g m' (D.put l t)) ∧ Below g w w') := Lib.hid fun W m l hT hW t ht =>
    (pin_any hT (HE.out W hW) (hs.out W hW) ht).mono fun e w' ⟨h1, h2⟩ => ⟨h1, let ⟨m', h3, _⟩ := h2; ⟨m', h3⟩, hW.trans (h2.bel hT (hs.out W hW))⟩
  have C1 : Hid (Calls Tryd.prog 10 #[.pointer (some ⟨g, 0, none⟩), .int .u64 7] W0 fun e w' => e = .returned (.tuple #[.int .i64 0, .int .i64 0]) ∧ (∃ m', Tab g w' g m' D.l1) ∧ Below g w w') := Lib.hid (CP.out W0 none D.l0 t0 b0 7 (by omega))
  have C2 : Hid (∀ W m, Tab g W g m D.l1 → Below g w W → Calls Tryd.prog 10 #[.pointer (some ⟨g, 0, none⟩), .int .u64 3] W fun e w' => e = .returned (.tuple #[.int .i64 1, .int .i64 0]) ∧ (∃ m', Tab g w' g m' D.l2) ∧ Below g w w') := Lib.hid fun W m h k => CP.out W m D.l1 h k 3 (by omega)
  have C3 : Hid (∀ W m, Tab g W g m D.l2 → Below g w W → Calls Tryd.prog 10 #[.pointer (some ⟨g, 0, none⟩), .int .u64 7] W fun e w' => e = .returned (.tuple #[.int .i64 2, .int .i64 0]) ∧ (∃ m', Tab g w' g m' D.l3) ∧ Below g w w') := Lib.hid fun W m h k => CP.out W m D.l2 h k 7 (by omega)
  have C4 : Hid (∀ W m, Tab g W g m D.l3 → Calls Tryd.prog 17 #[.pointer (some ⟨g, 0, none⟩)] W fun e w' => ∃ (A : Option Addr) (c : Nat), e = .returned (.slice A 2 c) ∧ Row w' A 2 (wds [3, 7]) ∧ Below W.heap.size W w') := Lib.hid fun W m h => by
    cases m with
    | none =>
      have := h.cnt.none_ rfl 7
      have h7 := (D.cn_l3 7).2 (.inr rfl)
      omega
    | some b =>
      obtain ⟨_, K, hM, hK⟩ := h.cnt.some_ b rfl
      have hm : ∀ x, x ∈ K ↔ x = 3 ∨ x = 7 := fun x => (hK x).trans (D.cn_l3 x)
      have hp : K.Perm [3, 7] := perm_same hM.nodup (by decide) (fun x => by rw [hm x]; simp)
      refine (times_any (p := some g) (Cm.some h) (fun b' e => by injection e with e; subst e; exact ⟨_, hM⟩) (fun e => by cases e) (by rw [hp.length_eq]; simp)).mono ?_
      rintro e w' ⟨A, c, ys, rfl, hr, hs, hb⟩
      have := srtd_two hM.nodup hm hs
      subst this
      exact ⟨A, c, rfl, hr, hb⟩
  have C5 : Hid (∀ W m, Tab g W g m D.l3 → Below g w W → Calls Tryd.prog 8 #[.pointer (some ⟨g, 0, none⟩), .slice (some ⟨W.heap.size, 0, none⟩) 1 1] (W.alloc (.cells #[.int .i64 0] 3)) fun e w' => e = .returned (.int .i64 1) ∧ Tab g w' g m D.l4 ∧ Below g w w') := Lib.hid fun W m h hW => by
    have b2 := below_alloc_ W (.cells #[.int .i64 0] 3)
    have hW2 : Below g w (W.alloc (.cells #[.int .i64 0] 3)) := below_up hW (hs.out W hW) b2
    have hR : Row (W.alloc (.cells #[.int .i64 0] 3)) (some ⟨W.heap.size, 0, none⟩) 1 (zs [0]) := row_one W 0
    refine (unpin_any (h.on b2) (hs.out _ hW2) (n := 1) (c := 1) (is := [0]) hR (fun ad e ht => ?_) (by omega) (fun i hi => ?_)).mono ?_
    · injection e with e
      subst e
      rcases ht with ht | ht
      · have := h.lt_; simp at ht; omega
      · have := h.mlt ht; simp at this
    · simp at hi; omega
    · rintro e w' ⟨rfl, h1, h2⟩
      exact ⟨rfl, h1, hW2.trans (h2.below (hs.out _ hW2) (h.on b2).ge)⟩
  have C6 : Hid (∀ W m, Tab g W g m D.l4 → Calls Tryd.prog 15 #[.pointer (some ⟨g, 0, none⟩), .int .u64 7] W fun e w' => e = .returned (.int .i64 1) ∧ W = w') := Lib.hid fun W m h => count_any h 7 (by omega)
  clear CP HE t0 b0 hE
  have hzv := zero_tab
  go_enter Tryd.func12, Tryd.ntmps12
  go_wp2_with fail
  try rw [hW0]
  try rw [hg]
  go_wp2_with (first
    | (go_at_call 10; (with_reducible refine C1.out.mono ?_); rintro e w1 ⟨rfl, ⟨m1, t1⟩, b1⟩; have D2 := Lib.hid (C2.out w1 m1 t1 b1); clear t1 b1)
    | (go_at_call 10; (with_reducible refine D2.out.mono ?_); rintro e w2 ⟨rfl, ⟨m2, t2⟩, b2⟩; have D3 := Lib.hid (C3.out w2 m2 t2 b2); clear t2 b2)
    | (go_at_call 10; (with_reducible refine D3.out.mono ?_); rintro e w3 ⟨rfl, ⟨m3, t3⟩, b3⟩; have D4 := Lib.hid (C4.out w3 m3 t3); have T3 := Lib.hid t3; have B3 := Lib.hid b3; clear t3 b3)
    | (go_at_call 17; (with_reducible refine D4.out.mono ?_); rintro e w4 ⟨A, c, rfl, hr, b4⟩; obtain ⟨ad, hAe, q0⟩ := hr.cell (k := 0) (u := .int .u64 3) rfl; obtain ⟨ad', hAe', q1⟩ := hr.cell (k := 1) (u := .int .u64 7) rfl; subst hAe; injection hAe' with hAe'; subst hAe'; rw [add_zero_] at q0; have q2 := q1; rw [show ad.add 1 = ⟨ad.block, ad.off + 1, none⟩ from add_sc ad 0] at q2; have T4 := Lib.hid (T3.out.on b4); have B4 := Lib.hid (below_up B3.out (hs.out _ B3.out) b4); have D5 := Lib.hid (C5.out w4 m3 T4.out B4.out); clear b4)
    | (go_at_call 8; (with_reducible refine D5.out.mono ?_); rintro e w5 ⟨rfl, t5, b5⟩; have D6 := Lib.hid (C6.out w5 m3 t5); have B5 := Lib.hid b5; clear t5 b5)
    | (go_at_call 15; (with_reducible refine D6.out.mono ?_); rintro e w6 ⟨rfl, rfl⟩))
  go_ret
  exact ⟨rfl, by rw [hg]; exact B5.out⟩
end Go.Proofs.YtdolceefbikppaaDoor
