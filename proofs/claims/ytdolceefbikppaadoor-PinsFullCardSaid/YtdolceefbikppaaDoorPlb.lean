/-
  Sixty-four pins, and no more: the law.
-/
import Derived.Test.YtdolceefbikppaaDoorPkn
import Derived.Test.YtdolceefbikppaaDoorPol
set_option linter.unusedVariables false
set_option linter.unusedSimpArgs false
set_option maxRecDepth 100000
namespace Go.Proofs.YtdolceefbikppaaDoor
open Go.RowKit
attribute [local go_sem ↓] Go.wp_at_zero Go.wp_at_succ
theorem D.fr_is : ∀ {l : D.Ps} {k : Nat}, (∀ i, i < k → ∃ t : Nat, l[i]? = some (some t)) → l[k]? = some none → D.fr l = k
  | [], k, _, h => by simp at h
  | none :: l, 0, _, _ => rfl
  | none :: l, k + 1, h, _ => by obtain ⟨t, ht⟩ := h 0 (by omega); simp at ht
  | some t :: l, 0, _, h => by simp at h
  | some t :: l, k + 1, h, h2 => by
    rw [D.fr, D.fr_is (l := l) (k := k) (fun i hi => by simpa using h (i + 1) (by omega)) (by simpa using h2)]
theorem D.fr_all : ∀ {l : D.Ps}, (∀ i, i < l.length → ∃ t : Nat, l[i]? = some (some t)) → D.fr l = l.length
  | [], _ => rfl
  | none :: l, h => by obtain ⟨t, ht⟩ := h 0 (by simp); simp at ht
  | some t :: l, h => by
    rw [D.fr, D.fr_all (l := l) (fun i hi => by simpa using h (i + 1) (by simp; omega))]
    rfl
/-- The first so many are there, and no other. -/
structure D.Up (l : D.Ps) (k : Nat) : Prop where
  len : l.length = 64
  le : k ≤ 64
  lo : ∀ i, i < k → ∃ t : Nat, l[i]? = some (some t)
  hi : ∀ i, k ≤ i → i < 64 → l[i]? = some none
theorem D.Up.zero : D.Up (List.replicate 64 none) 0 := ⟨by simp, by omega, fun i h => by omega, fun i _ h => by rw [List.getElem?_replicate, if_pos h]⟩
theorem D.Up.fr {l : D.Ps} {k : Nat} (h : D.Up l k) : D.fr l = k := by
  rcases Nat.lt_or_ge k 64 with h1 | h1
  · exact D.fr_is h.lo (h.hi k (Nat.le_refl _) h1)
  · rw [D.fr_all (fun i hi => h.lo i (by have := h.len; omega)), h.len]
    have := h.le
    omega
theorem D.Up.next {l : D.Ps} {k : Nat} (h : D.Up l k) (hk : k < 64) (t : Nat) : D.Up (D.put l t) (k + 1) ∧ D.pid l = k ∧ D.per l = 0 := by
  have hf := h.fr
  have e : D.put l t = l.set k (some t) := by unfold D.put; rw [hf, if_pos hk]
  refine ⟨?_, by unfold D.pid; rw [hf, if_pos hk], by unfold D.per; rw [hf, if_pos hk]⟩
  rw [e]
  refine ⟨by simp [h.len], by omega, fun i hi => ?_, fun i h1 h2 => ?_⟩
  · rw [List.getElem?_set]
    by_cases e : k = i
    · subst e
      rw [if_pos rfl, if_pos (by rw [h.len]; omega)]
      exact ⟨t, rfl⟩
    · rw [if_neg e]
      exact h.lo i (by omega)
  · rw [List.getElem?_set, if_neg (by omega)]
    exact h.hi i (by omega) h2
theorem D.Up.full {l : D.Ps} (h : D.Up l 64) (t : Nat) : D.put l t = l ∧ D.pid l = 0 ∧ D.per l = 6 := by
  have hf := h.fr
  refine ⟨?_, ?_, ?_⟩
  · unfold D.put; rw [hf]; rfl
  · unfold D.pid; rw [hf]; rfl
  · unfold D.per; rw [hf]; rfl
theorem D.Up.out {l : D.Ps} (h : D.Up l 64) {k : Nat} (hk : k < 64) : D.gone l [(k : Int)] = 1 ∧ D.outs l [(k : Int)] = l.set k none ∧ D.fr (l.set k none) = k := by
  obtain ⟨t, ht⟩ := h.lo k hk
  have hp : D.pn l (k : Int) = some t := by rw [D.pn_at, List.getD_eq_getElem?_getD, ht]; rfl
  refine ⟨?_, ?_, ?_⟩
  · simp [D.gone, hp]
  · simp [D.outs, D.out, hp]
  · refine D.fr_is (fun i hi => ?_) ?_
    · rw [List.getElem?_set, if_neg (by omega)]
      exact h.lo i (by omega)
    · rw [List.getElem?_set, if_pos rfl, if_pos (by rw [h.len]; exact hk)]
theorem D.Up.again {l : D.Ps} (h : D.Up l 64) {k : Nat} (hk : k < 64) (t : Nat) : D.Up (D.put (l.set k none) t) 64 ∧ D.pid (l.set k none) = k ∧ D.per (l.set k none) = 0 := by
  obtain ⟨_, _, hf⟩ := h.out hk
  have e : D.put (l.set k none) t = l.set k (some t) := by unfold D.put; rw [hf, if_pos hk, List.set_set]
  refine ⟨?_, by unfold D.pid; rw [hf, if_pos hk], by unfold D.per; rw [hf, if_pos hk]⟩
  rw [e]
  refine ⟨by simp [h.len], by omega, fun i hi => ?_, fun i h1 h2 => by omega⟩
  rw [List.getElem?_set]
  by_cases e : k = i
  · subst e
    rw [if_pos rfl, if_pos (by rw [h.len]; omega)]
    exact ⟨t, rfl⟩
  · rw [if_neg e]
    exact h.lo i hi
theorem conv_i64 (i : Int) (h1 : -9223372036854775808 ≤ i) (h2 : i ≤ 9223372036854775807) : ∃ k : Nat, k < 64 ∧ IntKind.i64.wrap ((IntKind.u64.wrap i).tmod 64) = (k : Int) ∧ (IntKind.u64.wrap i).tmod 64 = (k : Int) := by
  rw [IntKind.wrap_u64, Int.tmod_eq_emod_of_nonneg (by omega)]
  refine ⟨(i % 18446744073709551616 % 64).toNat, by omega, ?_, by omega⟩
  rw [IntWalk.i64_in _ (by omega)]
  omega
set_option maxHeartbeats 4000000 in
theorem law_full (t : Nat) (i : Int) (w : World) (ht : t < 18446744073709551616) (h1 : -9223372036854775808 ≤ i) (h2 : i ≤ 9223372036854775807) (hE : Env w) :
    Calls Tryd.prog 4 #[.int .u64 (t : Nat), .int .i64 i] w fun e w' => e = .returned (.bool true) ∧ Below w.heap.size w w' := by
  have HE : Hid (∀ W, Below w.heap.size w W → Env W) := Lib.hid fun W hW => hE.on hW
  obtain ⟨g, hg⟩ : ∃ g, w.heap.size = g := ⟨_, rfl⟩
  have t0 := tab_zero g w (by omega)
  have b0 := below_alloc_ w (.cells #[.int .u64 0, .int .u64 0, .int .u64 0, .int .u64 0, .int .u64 0, .int .u64 0, .int .u64 0, .int .u64 0, .int .u64 0, .int .u64 0, .int .u64 0, .int .u64 0, .int .u64 0, .int .u64 0, .int .u64 0, .int .u64 0, .int .u64 0, .int .u64 0, .int .u64 0, .int .u64 0, .int .u64 0, .int .u64 0, .int .u64 0, .int .u64 0, .int .u64 0, .int .u64 0, .int .u64 0, .int .u64 0, .int .u64 0, .int .u64 0, .int .u64 0, .int .u64 0, .int .u64 0, .int .u64 0, .int .u64 0, .int .u64 0, .int .u64 0, .int .u64 0, .int .u64 0, .int .u64 0, .int .u64 0, .int .u64 0, .int .u64 0, .int .u64 0, .int .u64 0, .int .u64 0, .int .u64 0, .int .u64 0, .int .u64 0, .int .u64 0, .int .u64 0, .int .u64 0, .int .u64 0, .int .u64 0, .int .u64 0, .int .u64 0, .int .u64 0, .int .u64 0, .int .u64 0, .int .u64 0, .int .u64 0, .int .u64 0, .int .u64 0, .int .u64 0, .int .u64 0, .map none] 27)
  rw [hg] at t0 b0 HE
  have hs : Hid (∀ W : World, Below g w W → g ≤ W.heap.size) := Lib.hid fun W h => by have := h.size; omega
  obtain ⟨W0, hW0⟩ : ∃ W0, w.alloc (.cells #[.int .u64 0, .int .u64 0, .int .u64 0, .int .u64 0, .int .u64 0, .int .u64 0, .int .u64 0, .int .u64 0, .int .u64 0, .int .u64 0, .int .u64 0, .int .u64 0, .int .u64 0, .int .u64 0, .int .u64 0, .int .u64 0, .int .u64 0, .int .u64 0, .int .u64 0, .int .u64 0, .int .u64 0, .int .u64 0, .int .u64 0, .int .u64 0, .int .u64 0, .int .u64 0, .int .u64 0, .int .u64 0, .int .u64 0, .int .u64 0, .int .u64 0, .int .u64 0, .int .u64 0, .int .u64 0, .int .u64 0, .int .u64 0, .int .u64 0, .int .u64 0, .int .u64 0, .int .u64 0, .int .u64 0, .int .u64 0, .int .u64 0, .int .u64 0, .int .u64 0, .int .u64 0, .int .u64 0, .int .u64 0, .int .u64 0, .int .u64 0, .int .u64 0, .int .u64 0, .int .u64 0, .int .u64 0, .int .u64 0, .int .u64 0, .int .u64 0, .int .u64 0, .int .u64 0, .int .u64 0, .int .u64 0, .int .u64 0, .int .u64 0, .int .u64 0, .int .u64 0, .map none] 27) = W0 := ⟨_, rfl⟩
  rw [hW0] at t0 b0
  have CP : Hid (∀ (W : World) (m : Option Nat) (l : D.Ps), Tab g W g m l → Below g w W → ∀ z : Int, 0 ≤ z ∧ z < 18446744073709551616 → Calls Tryd.prog 10 #[.pointer (some ⟨g, 0, none⟩), .int .u64 z] W fun e w' => e = .returned (.tuple #[.int .i64 (D.pid l : Nat), .int .i64 (D.per l : Nat)]) ∧ (∃ m', Tab g w' g m' (D.put l z.toNat)) ∧ Below g w w') := Lib.hid fun W m l hT hW z hz => by
    have := pin_any hT (HE.out W hW) (hs.out W hW) (t := z.toNat) (by omega)
    rw [Int.toNat_of_nonneg hz.1] at this
    exact this.mono fun e w' ⟨h1, h2⟩ => ⟨h1, let ⟨m', h3, _⟩ := h2; ⟨m', h3⟩, hW.trans (h2.bel hT (hs.out W hW))⟩
  have CK := Lib.hid (fun W (hW : Below g w W) => known_any W (HE.out W hW))
  have HT0 := Lib.hid t0
  have HB0 := Lib.hid b0
  obtain ⟨k, hk, hk1, hk2⟩ := conv_i64 i h1 h2
  have hzv := zero_tab
  clear t0 b0 hE HE
  go_enter Tryd.func4, Tryd.ntmps4
  go_wp2_with fail
  have k0 : (0 : Int) ≤ (k : Int) := by omega
  clear hk1 hk2 hzv
  go_loopw [6] (fun s6 wx => ∃ (j : Nat) (l : D.Ps) (m : Option Nat), j ≤ 64 ∧ s6 = .int .i64 j ∧ Hid (D.Up l j) ∧ Hid (Tab g wx g m l) ∧ Hid (Below g w wx)) (fun s6 _ => 64 - (intOf s6).toNat)
  case atStart => exact ⟨0, _, none, by omega, rfl, Lib.hid D.Up.zero, HT0, HB0⟩
  case round =>
    obtain ⟨j, l, m, hj, rfl, HU, HT, HB⟩ := hrel
    clear HT0 HB0
    by_cases hlt : j < 64
    · have j0 : (0 : Int) ≤ (j : Int) := by omega
      have j1 : (j : Int) < 64 := by omega
      have C1 := Lib.hid (CP.out wr m l HT.out HB.out)
      have HN := Lib.hid (fun t => HU.out.next hlt t)
      rw [(HN.out 0).2.1, (HN.out 0).2.2] at C1
      go_wp2_with (first
        | (go_at_call 10; (with_reducible refine (C1.out _ (by rw [IntKind.wrap_u64]; omega)).mono ?_); rintro e w1 ⟨rfl, ⟨m1, t1⟩, b1⟩; have T1 := Lib.hid t1; have B1 := Lib.hid b1; clear t1 b1)
        | fail)
      go_roundw
      case rel => exact ⟨j + 1, _, m1, by omega, by go_num, Lib.hid (HN.out _).1, T1, B1⟩
      case measure => simp [intOf]; omega
    · have hj4 : j = 64 := by omega
      have HU : Hid (D.Up l 64) := Lib.hid (by have := HU.out; rwa [hj4] at this)
      have i1 : (64 : Int) ≤ (j : Int) := by omega
      obtain ⟨e1, e2, e3⟩ := HU.out.full t
      obtain ⟨e4, e5, e6⟩ := HU.out.out hk
      obtain ⟨u1, e7, e8⟩ := HU.out.again hk t
      have C1 : Hid (Calls Tryd.prog 10 #[.pointer (some ⟨g, 0, none⟩), .int .u64 (t : Int)] wr fun e w' => e = .returned (.tuple #[.int .i64 0, .int .i64 6]) ∧ (∃ m', Tab g w' g m' l) ∧ Below g w w') := Lib.hid (by
        have := CP.out wr m l HT.out HB.out t (by omega)
        rw [Int.toNat_natCast, e1, e2, e3] at this
        exact this)
      have C2 : Hid (∀ W m, Tab g W g m l → Below g w W → Calls Tryd.prog 8 #[.pointer (some ⟨g, 0, none⟩), .slice (some ⟨W.heap.size, 0, none⟩) 1 1] (W.alloc (.cells #[.int .i64 (k : Int)] 3)) fun e w' => e = .returned (.int .i64 1) ∧ Tab g w' g m (l.set k none) ∧ Below g w w') := Lib.hid fun W m h hW => by
        have b2 := below_alloc_ W (.cells #[.int .i64 (k : Int)] 3)
        have hW2 : Below g w (W.alloc (.cells #[.int .i64 (k : Int)] 3)) := below_up hW (hs.out W hW) b2
        refine (unpin_any (h.on b2) (hs.out _ hW2) (n := 1) (c := 1) (is := [(k : Int)]) (row_one W k) (fun ad e ht => ?_) (by omega) (fun i hi => ?_)).mono ?_
        · injection e with e
          subst e
          rcases ht with ht | ht
          · have := h.lt_; simp at ht; omega
          · have := h.mlt ht; simp at this
        · simp at hi; omega
        · rintro e w' ⟨rfl, h1, h2⟩
          rw [e5] at h1
          exact ⟨by rw [e4]; rfl, h1, hW2.trans (h2.below (hs.out _ hW2) (h.on b2).ge)⟩
      have C3 : Hid (∀ W m, Tab g W g m (l.set k none) → Below g w W → Calls Tryd.prog 10 #[.pointer (some ⟨g, 0, none⟩), .int .u64 (t : Int)] W fun e w' => e = .returned (.tuple #[.int .i64 (k : Int), .int .i64 0]) ∧ (∃ m', Tab g w' g m' (D.put (l.set k none) t)) ∧ Below g w w') := Lib.hid (fun W m h hW => by
        have := CP.out W m _ h hW t (by omega)
        rw [Int.toNat_natCast, e7, e8] at this
        exact this)
      have C4 := Lib.hid (fun W m (h : Tab g W g m (D.put (l.set k none) t)) => len_full h u1.fr)
      clear e1 e2 e3 e4 e5 e6 e7 e8 u1 HT HB CP
      go_wp2_with (first
        | (go_at_call 10; (with_reducible refine C1.out.mono ?_); rintro e w1 ⟨rfl, ⟨m1, t1⟩, b1⟩; have D2 := Lib.hid (C2.out w1 m1 t1 b1); clear t1 b1)
        | (go_at_call 8; (with_reducible refine D2.out.mono ?_); rintro e w2 ⟨rfl, t2, b2⟩; have D3 := Lib.hid (C3.out w2 m1 t2 b2); clear t2 b2)
        | (go_at_call 10; (with_reducible refine D3.out.mono ?_); rintro e w3 ⟨rfl, ⟨m3, t3⟩, b3⟩; have T3 := Lib.hid t3; have B3 := Lib.hid b3; clear t3 b3)
        | (go_at_call 12; (with_reducible refine (CK.out _ B3.out).mono ?_); rintro e w4 ⟨rfl, b4⟩; have T4 := Lib.hid (T3.out.on b4); have D5 := Lib.hid (C4.out w4 m3 T4.out); have B4 := Lib.hid (below_up B3.out (hs.out _ B3.out) b4); clear b4)
        | (go_at_call 13; (with_reducible refine D5.out.mono ?_); rintro e w5 ⟨rfl, rfl⟩))
      go_ret
      exact ⟨rfl, by rw [hg]; exact B4.out⟩
end Go.Proofs.YtdolceefbikppaaDoor
