/-
  A pin stays at its time: the law.
-/
import Derived.Test.YtdolceefbikppaaDoorPop
set_option linter.unusedVariables false
set_option linter.unusedSimpArgs false
set_option maxRecDepth 100000
namespace Go.Proofs.YtdolceefbikppaaDoor
open Go.RowKit
attribute [local go_sem ↓] Go.wp_at_zero Go.wp_at_succ
/-- The parts of a call in a row. -/
theorem pr {w : World} {ad : Addr} {i : Nat} {x : Pac} (h : aS.rd w (ad.add (i * 3)) = some x) : w.cell? (ad.add (i * 3)) = some (.int .i64 x.k) ∧ w.cell? ⟨(ad.add (i * 3)).block, (ad.add (i * 3)).off + 1, none⟩ = some (.int .i64 x.i) ∧ w.cell? ⟨(ad.add (i * 3)).block, (ad.add (i * 3)).off + 2, none⟩ = some (.int .u64 (x.t : Nat)) := by
  have hc := Shp.at_of h
  have h0 : w.cell? (ad.add (i * 3)) = some (.int .i64 x.k) := by have := hc 0 _ rfl; rwa [add_zero_] at this
  have hn : ∀ j u, (pcells x)[j + 1]? = some u → w.cell? ⟨(ad.add (i * 3)).block, (ad.add (i * 3)).off + (j + 1), none⟩ = some u := fun j u hu => by
    have := hc (j + 1) u hu
    rwa [add_sc] at this
  exact ⟨h0, hn 0 _ rfl, hn 1 _ rfl⟩
/-- How many there are. -/
def D.many (l : D.Ps) : Nat := l.countP (·.isSome)
theorem D.many_put (l : D.Ps) (t : Nat) : D.many (D.put l t) ≤ D.many l + 1 := by
  unfold D.put
  split
  · by_cases hi : D.fr l < l.length
    · unfold D.many
      rw [List.countP_set hi]
      have : (some t : Option Nat).isSome = true := rfl
      split <;> simp [this] <;> omega
    · rw [List.set_eq_of_length_le (by omega)]; omega
  · omega
theorem D.many_out (l : D.Ps) (i : Int) : D.many (D.out l i) ≤ D.many l := by
  unfold D.out
  split
  · by_cases hi : i.toNat < l.length
    · unfold D.many
      rw [List.countP_set hi]
      have : (none : Option Nat).isSome = false := rfl
      split <;> simp [this] <;> omega
    · rw [List.set_eq_of_length_le (by omega)]; omega
  · omega
theorem D.fr_many : ∀ l : D.Ps, D.fr l ≤ D.many l
  | [] => Nat.zero_le _
  | none :: l => Nat.zero_le _
  | some t :: l => by
    have := D.fr_many l
    have e : D.many (some t :: l) = D.many l + 1 := by simp [D.many, List.countP_cons]
    rw [e, D.fr]
    omega
theorem D.put_keeps {l : D.Ps} (hl : l.length = 64) {k x : Nat} (h : l[k]? = some (some x)) (t : Nat) : (D.put l t)[k]? = some (some x) := by
  unfold D.put
  split
  · rename_i hf
    rw [List.getElem?_set, if_neg]
    · exact h
    · intro e
      have := D.fr_none (l := l) (by omega)
      rw [e, h] at this
      cases this
  · exact h
theorem D.out_keeps {l : D.Ps} (hl : l.length = 64) {k x : Nat} (h : l[k]? = some (some x)) {i : Int} (hi : i ≠ k) : (D.out l i)[k]? = some (some x) := by
  unfold D.out
  split
  · rename_i hs
    obtain ⟨t, ht⟩ := Option.isSome_iff_exists.1 hs
    obtain ⟨j, rfl, hj, _⟩ := D.pn_some hl ht
    rw [List.getElem?_set, if_neg]
    · exact h
    · intro e
      apply hi
      have : ((j : Int)).toNat = j := rfl
      omega
  · exact h
theorem D.pn_of {l : D.Ps} {k x : Nat} (h : l[k]? = some (some x)) : D.pn l (k : Int) = some x := by rw [D.pn_at, List.getD_eq_getElem?_getD, h]; rfl
/-- Some table, of at most so many. -/
def Few (g : Nat) (w : World) (j : Nat) (W : World) : Prop := ∃ m l, Tab g W g m l ∧ D.many l ≤ j ∧ Below g w W
/-- Some table in which a pin is at a time. -/
def Has (g : Nat) (w : World) (k t : Nat) (W : World) : Prop := ∃ m l, Tab g W g m l ∧ l[k]? = some (some t) ∧ Below g w W
theorem unpin_one {base g : Nat} {W : World} {m : Option Nat} {l : D.Ps} (h : Tab base W g m l) (hs : base ≤ W.heap.size) (i : Int) (h1 : -9223372036854775808 ≤ i) (h2 : i ≤ 9223372036854775807) :
    Calls Tryd.prog 8 #[.pointer (some ⟨g, 0, none⟩), .slice (some ⟨W.heap.size, 0, none⟩) 1 1] (W.alloc (.cells #[.int .i64 i] 3)) fun e w' => e = .returned (.int .i64 (D.gone l [i] : Nat)) ∧ Tab base w' g m (D.out l i) ∧ Below base W w' := by
  have b2 := below_alloc_ W (.cells #[.int .i64 i] 3)
  have hs2 : base ≤ (W.alloc (.cells #[.int .i64 i] 3)).heap.size := by have := b2.size; omega
  refine (unpin_any (h.on b2) hs2 (n := 1) (c := 1) (is := [i]) (row_one W i) (fun ad e ht => ?_) (by omega) (fun j hj => ?_)).mono ?_
  · injection e with e
    subst e
    rcases ht with ht | ht
    · have := h.lt_; simp at ht; omega
    · have := h.mlt ht; simp at this
  · simp at hj; subst hj; exact ⟨h1, h2⟩
  · rintro e w' ⟨rfl, h3, h4⟩
    exact ⟨rfl, h3, (b2.mono hs).trans (h4.below hs2 (h.on b2).ge)⟩
set_option maxHeartbeats 8000000 in
theorem law_stay {w : World} {A B : Option Addr} {n c m d : Nat} {acts more : List Pac} {t : Nat} (hr : Shp.Row aS w A n acts) (hm : Shp.Row aS w B m more) (ha : ∀ a ∈ acts, PacOk a) (hb : ∀ a ∈ more, PacOk a) (ht : t < 18446744073709551616) (hE : Env w) :
    Calls Tryd.prog 5 #[.slice A n c, .slice B m d, .int .u64 (t : Nat)] w fun e w' => e = .returned (.bool true) ∧ Below w.heap.size w w' := by
  have HE : Hid (∀ W, Below w.heap.size w W → Env W) := Lib.hid fun W hW => hE.on hW
  have HR : Hid (∀ W, Below w.heap.size w W → Shp.Row aS W A n acts) := Lib.hid fun W hW => hr.on hW
  have HM : Hid (∀ W, Below w.heap.size w W → Shp.Row aS W B m more) := Lib.hid fun W hW => hm.on hW
  have HLA := Lib.hid hr.len
  have HLB := Lib.hid hm.len
  have HA := Lib.hid ha
  have HBm := Lib.hid hb
  obtain ⟨g, hg⟩ : ∃ g, w.heap.size = g := ⟨_, rfl⟩
  have t0 := tab_zero g w (by omega)
  have b0 := below_alloc_ w (.cells #[.int .u64 0, .int .u64 0, .int .u64 0, .int .u64 0, .int .u64 0, .int .u64 0, .int .u64 0, .int .u64 0, .int .u64 0, .int .u64 0, .int .u64 0, .int .u64 0, .int .u64 0, .int .u64 0, .int .u64 0, .int .u64 0, .int .u64 0, .int .u64 0, .int .u64 0, .int .u64 0, .int .u64 0, .int .u64 0, .int .u64 0, .int .u64 0, .int .u64 0, .int .u64 0, .int .u64 0, .int .u64 0, .int .u64 0, .int .u64 0, .int .u64 0, .int .u64 0, .int .u64 0, .int .u64 0, .int .u64 0, .int .u64 0, .int .u64 0, .int .u64 0, .int .u64 0, .int .u64 0, .int .u64 0, .int .u64 0, .int .u64 0, .int .u64 0, .int .u64 0, .int .u64 0, .int .u64 0, .int .u64 0, .int .u64 0, .int .u64 0, .int .u64 0, .int .u64 0, .int .u64 0, .int .u64 0, .int .u64 0, .int .u64 0, .int .u64 0, .int .u64 0, .int .u64 0, .int .u64 0, .int .u64 0, .int .u64 0, .int .u64 0, .int .u64 0, .int .u64 0, .map none] 27)
  rw [hg] at t0 b0 HE HR HM
  have hs : Hid (∀ W : World, Below g w W → g ≤ W.heap.size) := Lib.hid fun W h => by have := h.size; omega
  obtain ⟨W0, hW0⟩ : ∃ W0, w.alloc (.cells #[.int .u64 0, .int .u64 0, .int .u64 0, .int .u64 0, .int .u64 0, .int .u64 0, .int .u64 0, .int .u64 0, .int .u64 0, .int .u64 0, .int .u64 0, .int .u64 0, .int .u64 0, .int .u64 0, .int .u64 0, .int .u64 0, .int .u64 0, .int .u64 0, .int .u64 0, .int .u64 0, .int .u64 0, .int .u64 0, .int .u64 0, .int .u64 0, .int .u64 0, .int .u64 0, .int .u64 0, .int .u64 0, .int .u64 0, .int .u64 0, .int .u64 0, .int .u64 0, .int .u64 0, .int .u64 0, .int .u64 0, .int .u64 0, .int .u64 0, .int .u64 0, .int .u64 0, .int .u64 0, .int .u64 0, .int .u64 0, .int .u64 0, .int .u64 0, .int .u64 0, .int .u64 0, .int .u64 0, .int .u64 0, .int .u64 0, .int .u64 0, .int .u64 0, .int .u64 0, .int .u64 0, .int .u64 0, .int .u64 0, .int .u64 0, .int .u64 0, .int .u64 0, .int .u64 0, .int .u64 0, .int .u64 0, .int .u64 0, .int .u64 0, .int .u64 0, .int .u64 0, .map none] 27) = W0 := ⟨_, rfl⟩
  rw [hW0] at t0 b0
  have HF0 : Hid (Few g w 0 W0) := Lib.hid ⟨none, _, t0, by decide, b0⟩
  have CP1 : Hid (∀ (W : World) (j : Nat), Few g w j W → ∀ z : Nat, z < 18446744073709551616 → Calls Tryd.prog 10 #[.pointer (some ⟨g, 0, none⟩), .int .u64 (z : Int)] W fun e w' => (∃ a b, e = .returned (.tuple #[.int .i64 a, .int .i64 b])) ∧ Few g w (j + 1) w') := Lib.hid fun W j ⟨m, l, hT, hj, hW⟩ z hz =>
    (pin_any hT (HE.out W hW) (hs.out W hW) hz).mono fun e w' ⟨h1, h2⟩ => ⟨⟨_, _, h1⟩, let ⟨m', h3, _⟩ := h2; ⟨m', _, h3, Nat.le_trans (D.many_put l z) (by omega), hW.trans (h2.bel hT (hs.out W hW))⟩⟩
  have CU1 : Hid (∀ (W : World) (j : Nat), Few g w j W → ∀ i : Int, -9223372036854775808 ≤ i → i ≤ 9223372036854775807 → Calls Tryd.prog 8 #[.pointer (some ⟨g, 0, none⟩), .slice (some ⟨W.heap.size, 0, none⟩) 1 1] (W.alloc (.cells #[.int .i64 i] 3)) fun e w' => (∃ a, e = .returned (.int .i64 a)) ∧ Few g w (j + 1) w') := Lib.hid fun W j ⟨m, l, hT, hj, hW⟩ i h1 h2 =>
    (unpin_one hT (hs.out W hW) i h1 h2).mono fun e w' ⟨h1, h2, h3⟩ => ⟨⟨_, h1⟩, m, _, h2, Nat.le_trans (D.many_out l i) (by omega), hW.trans h3⟩
  have CP2 : Hid (∀ (W : World) (j : Nat), Few g w j W → j ≤ 30 → ∃ k : Nat, k < 64 ∧ Calls Tryd.prog 10 #[.pointer (some ⟨g, 0, none⟩), .int .u64 (t : Int)] W fun e w' => e = .returned (.tuple #[.int .i64 (k : Int), .int .i64 0]) ∧ Has g w k t w') := Lib.hid fun W j ⟨m, l, hT, hj, hW⟩ h30 => by
    have hf : D.fr l < 64 := by have := D.fr_many l; omega
    refine ⟨D.fr l, hf, ?_⟩
    have := pin_any hT (HE.out W hW) (hs.out W hW) ht
    have e1 : D.pid l = D.fr l := by unfold D.pid; rw [if_pos hf]
    have e2 : D.per l = 0 := by unfold D.per; rw [if_pos hf]
    rw [e1, e2] at this
    refine this.mono fun e w' ⟨h1, h2⟩ => ⟨h1, ?_⟩
    have hb := h2.bel hT (hs.out W hW)
    obtain ⟨m', h3, _⟩ := h2
    refine ⟨m', _, h3, ?_, hW.trans hb⟩
    unfold D.put
    rw [if_pos hf, List.getElem?_set, if_pos rfl, if_pos (by have := hT.len; omega)]
  have CP3 : Hid (∀ (W : World) (k : Nat), Has g w k t W → ∀ z : Nat, z < 18446744073709551616 → Calls Tryd.prog 10 #[.pointer (some ⟨g, 0, none⟩), .int .u64 (z : Int)] W fun e w' => (∃ a b, e = .returned (.tuple #[.int .i64 a, .int .i64 b])) ∧ Has g w k t w') := Lib.hid fun W k ⟨m, l, hT, hk, hW⟩ z hz =>
    (pin_any hT (HE.out W hW) (hs.out W hW) hz).mono fun e w' ⟨h1, h2⟩ => ⟨⟨_, _, h1⟩, let ⟨m', h3, _⟩ := h2; ⟨m', _, h3, D.put_keeps hT.len hk z, hW.trans (h2.bel hT (hs.out W hW))⟩⟩
  have CU3 : Hid (∀ (W : World) (k : Nat), Has g w k t W → ∀ i : Int, i ≠ (k : Int) → -9223372036854775808 ≤ i → i ≤ 9223372036854775807 → Calls Tryd.prog 8 #[.pointer (some ⟨g, 0, none⟩), .slice (some ⟨W.heap.size, 0, none⟩) 1 1] (W.alloc (.cells #[.int .i64 i] 3)) fun e w' => (∃ a, e = .returned (.int .i64 a)) ∧ Has g w k t w') := Lib.hid fun W k ⟨m, l, hT, hk, hW⟩ i hi h1 h2 =>
    (unpin_one hT (hs.out W hW) i h1 h2).mono fun e w' ⟨h1, h2, h3⟩ => ⟨⟨_, h1⟩, m, _, h2, D.out_keeps hT.len hk hi, hW.trans h3⟩
  have CA : Hid (∀ (W : World) (k : Nat), Has g w k t W → k < 64 → Calls Tryd.prog 14 #[.pointer (some ⟨g, 0, none⟩), .int .i64 (k : Int)] W fun e w' => e = .returned (.tuple #[.int .u64 (t : Int), .bool true]) ∧ W = w') := Lib.hid fun W k ⟨m, l, hT, hk, hW⟩ hk4 => by
    have := at_any hT (k : Int) (by omega) (by omega)
    rw [D.pn_of hk] at this
    exact this
  have CC : Hid (∀ (W : World) (k : Nat), Has g w k t W → Calls Tryd.prog 15 #[.pointer (some ⟨g, 0, none⟩), .int .u64 (t : Int)] W fun e w' => (∃ q : Nat, 1 ≤ q ∧ e = .returned (.int .i64 (q : Int))) ∧ W = w') := Lib.hid fun W k ⟨m, l, hT, hk, hW⟩ =>
    (count_any hT t ht).mono fun e w' ⟨h1, h2⟩ => ⟨⟨_, D.cn_pos.2 (List.mem_of_getElem? hk), h1⟩, h2⟩
  have CE : Hid (∀ (W : World) (k : Nat), Has g w k t W → k < 64 → Calls Tryd.prog 8 #[.pointer (some ⟨g, 0, none⟩), .slice (some ⟨W.heap.size, 0, none⟩) 1 1] (W.alloc (.cells #[.int .i64 (k : Int)] 3)) fun e w' => e = .returned (.int .i64 1) ∧ Below g w w') := Lib.hid fun W k ⟨m, l, hT, hk, hW⟩ hk4 => by
    refine (unpin_one hT (hs.out W hW) (k : Int) (by omega) (by omega)).mono fun e w' ⟨h1, h2, h3⟩ => ⟨?_, hW.trans h3⟩
    rw [h1]
    have : D.gone l [(k : Int)] = 1 := by simp [D.gone, D.pn_of hk]
    rw [this]
    rfl
  have HBW : Hid (∀ W k, Has g w k t W → Below g w W) := Lib.hid fun W k ⟨m, l, _, _, h⟩ => h
  have HBF : Hid (∀ W j, Few g w j W → Below g w W) := Lib.hid fun W k ⟨m, l, _, _, h⟩ => h
  have HON : Hid (∀ W k, Has g w k t W → ∀ V, Below W.heap.size W V → Has g w k t V) := Lib.hid fun W k ⟨m, l, h1, h2, h3⟩ V hV => ⟨m, l, h1.on hV, h2, below_up h3 (hs.out W h3) hV⟩
  have CK := Lib.hid (fun W (hW : Below g w W) => known_any W (HE.out W hW))
  have hzv := zero_tab
  clear t0 b0 hE HE hr hm ha hb
  go_enter Tryd.func5, Tryd.ntmps5
  go_wp2_with fail
  clear hzv
  go_loopw [8] (fun s8 wx => ∃ (j : Nat), j ≤ 30 ∧ j ≤ n ∧ s8 = .int .i64 j ∧ Hid (Few g w j wx)) (fun s8 _ => n - (intOf s8).toNat)
  case atStart => exact ⟨0, by omega, by omega, rfl, HF0⟩
  case round =>
    obtain ⟨j, hj30, hjn, rfl, HF⟩ := hrel
    clear HF0
    by_cases hgo : j < n ∧ j < 30
    · have i0 : (0 : Int) ≤ (j : Int) := by omega
      have i1 : (j : Int) < (n : Int) := by omega
      have i2 : (j : Int) < 30 := by omega
      obtain ⟨a, hax⟩ : ∃ a, acts[j]? = some a := ⟨_, List.getElem?_eq_getElem (by have := HLA.out; omega)⟩
      obtain ⟨ad, hAe, hal, hrd⟩ := (HR.out wr (HBF.out _ _ HF.out)).rd hax
      subst hAe
      obtain ⟨q0, q1, q2⟩ := pr hrd
      obtain ⟨-, hia, hta⟩ := HA.out a (List.mem_of_getElem? hax)
      obtain ⟨ka, ia, ta⟩ := a
      simp only at hia hta q0 q1 q2
      have C1 := Lib.hid (CP1.out wr j HF.out ta hta)
      have C2 := Lib.hid (CU1.out wr j HF.out ia hia.1 hia.2)
      clear hax hrd hia hta
      by_cases hk0 : ka = 0
      · subst hk0
        go_wp2_with (first
          | (go_at_call 8; (with_reducible refine C2.out.mono ?_); rintro e w1 ⟨⟨v, rfl⟩, h1⟩; have F1 := Lib.hid h1; clear h1)
          | fail)
        go_roundw
        case rel => exact ⟨j + 1, by omega, by omega, by go_num, F1⟩
        case measure => simp [intOf]; omega
      · go_wp2_with (first
          | (go_at_call 10; (with_reducible refine C1.out.mono ?_); rintro e w1 ⟨⟨v, v', rfl⟩, h1⟩; have F1 := Lib.hid h1; clear h1)
          | fail)
        go_roundw
        case rel => exact ⟨j + 1, by omega, by omega, by go_num, F1⟩
        case measure => simp [intOf]; omega
    · have i0 : (0 : Int) ≤ (j : Int) := by omega
      obtain ⟨k, hk4, C1⟩ := CP2.out wr j HF.out hj30
      have C1 := Lib.hid C1
      have i3 : ¬ ((j : Int) < (n : Int) ∧ (j : Int) < 30) := by omega
      have TWO : ¬ ((j : Int) < (n : Int)) ∨ ((j : Int) < (n : Int) ∧ ¬ ((j : Int) < 30)) := by omega
      clear i3 hgo CP1 CU1 CP2
      rcases TWO with i1 | ⟨i1, i2⟩
      · go_wp2_with (first
          | (go_at_call 10; (with_reducible refine C1.out.mono ?_); rintro e w1 ⟨rfl, h1⟩; have H1 := Lib.hid h1; clear h1)
          | fail)
        have k0 : (0 : Int) ≤ (k : Int) := by omega
        clear C1 HF
        go_loopw [11] (fun s11 wx => ∃ (j : Nat), j ≤ m ∧ s11 = .int .i64 j ∧ Hid (Has g w k t wx)) (fun s11 _ => m - (intOf s11).toNat)
        case atStart => exact ⟨0, by omega, rfl, H1⟩
        case round =>
          clear i0 i1
          obtain ⟨j, hjm, rfl, HH⟩ := hrel
          clear H1
          by_cases hgo : j < m ∧ j < 30
          · have i0 : (0 : Int) ≤ (j : Int) := by omega
            have i1 : (j : Int) < (m : Int) := by omega
            have i2 : (j : Int) < 30 := by omega
            obtain ⟨a, hax⟩ : ∃ a, more[j]? = some a := ⟨_, List.getElem?_eq_getElem (by have := HLB.out; omega)⟩
            obtain ⟨ad, hAe, hal, hrd⟩ := (HM.out wr (HBW.out _ _ HH.out)).rd hax
            subst hAe
            obtain ⟨q0, q1, q2⟩ := pr hrd
            obtain ⟨-, hia, hta⟩ := HBm.out a (List.mem_of_getElem? hax)
            obtain ⟨ka, ia, ta⟩ := a
            simp only at hia hta q0 q1 q2
            have C1 := Lib.hid (CP3.out wr k HH.out ta hta)
            have C2 := Lib.hid (fun hi => CU3.out wr k HH.out ia hi hia.1 hia.2)
            clear hax hrd hta
            by_cases hk0 : ka = 0
            · subst hk0
              by_cases hik : ia = (k : Int)
              · have D1 := Lib.hid (CA.out wr k HH.out hk4)
                have D2 := Lib.hid (CC.out wr k HH.out)
                have hik2 : (ia != (k : Int)) = false := by simp [hik]
                clear hik
                go_wp2_with (first
                  | (go_at_call 14; (with_reducible refine D1.out.mono ?_); rintro e w2 ⟨rfl, rfl⟩)
                  | (go_at_call 15; (with_reducible refine D2.out.mono ?_); rintro e w2 ⟨⟨q, hq, rfl⟩, rfl⟩; have hq2 : ¬ ((q : Int) < 1) := by omega)
                  | fail)
                go_roundw
                case rel => exact ⟨j + 1, by omega, by go_num, HH⟩
                case measure => simp [intOf]; omega
              · have C2 := Lib.hid (C2.out hik)
                have hik2 : (ia != (k : Int)) = true := by simp [hik]
                clear hik
                go_wp2_with (first
                  | (go_at_call 8; (with_reducible refine C2.out.mono ?_); rintro e w1 ⟨⟨v, rfl⟩, h1⟩; have H2 := Lib.hid h1; have D1 := Lib.hid (CA.out w1 k h1 hk4); have D2 := Lib.hid (CC.out w1 k h1); clear h1)
                  | (go_at_call 14; (with_reducible refine D1.out.mono ?_); rintro e w2 ⟨rfl, rfl⟩)
                  | (go_at_call 15; (with_reducible refine D2.out.mono ?_); rintro e w2 ⟨⟨q, hq, rfl⟩, rfl⟩; have hq2 : ¬ ((q : Int) < 1) := by omega)
                  | fail)
                go_roundw
                case rel => exact ⟨j + 1, by omega, by go_num, H2⟩
                case measure => simp [intOf]; omega
            · go_wp2_with (first
                | (go_at_call 10; (with_reducible refine C1.out.mono ?_); rintro e w1 ⟨⟨v, v', rfl⟩, h1⟩; have H2 := Lib.hid h1; have D1 := Lib.hid (CA.out w1 k h1 hk4); have D2 := Lib.hid (CC.out w1 k h1); clear h1)
                | (go_at_call 14; (with_reducible refine D1.out.mono ?_); rintro e w2 ⟨rfl, rfl⟩)
                | (go_at_call 15; (with_reducible refine D2.out.mono ?_); rintro e w2 ⟨⟨q, hq, rfl⟩, rfl⟩; have hq2 : ¬ ((q : Int) < 1) := by omega)
                | fail)
              go_roundw
              case rel => exact ⟨j + 1, by omega, by go_num, H2⟩
              case measure => simp [intOf]; omega
          · have TWO : ¬ ((j : Int) < (m : Int)) ∨ ((j : Int) < (m : Int) ∧ ¬ ((j : Int) < 30)) := by omega
            clear hgo CP3 CU3
            have HB := Lib.hid (HBW.out _ _ HH.out)
            have D3 := Lib.hid (CK.out wr HB.out)
            rcases TWO with i1 | ⟨i1, i2⟩
            · go_wp2_with (first
                | (go_at_call 12; (with_reducible refine D3.out.mono ?_); rintro e w3 ⟨rfl, b3⟩; have H3 := Lib.hid (HON.out wr k HH.out w3 b3); have D4 := Lib.hid (CE.out w3 k H3.out hk4); clear b3)
                | (go_at_call 8; (with_reducible refine D4.out.mono ?_); rintro e w4 ⟨rfl, b4⟩; have B4 := Lib.hid b4; clear b4)
                | fail)
              go_ret
              exact ⟨rfl, by rw [hg]; exact B4.out⟩
            · go_wp2_with (first
                | (go_at_call 12; (with_reducible refine D3.out.mono ?_); rintro e w3 ⟨rfl, b3⟩; have H3 := Lib.hid (HON.out wr k HH.out w3 b3); have D4 := Lib.hid (CE.out w3 k H3.out hk4); clear b3)
                | (go_at_call 8; (with_reducible refine D4.out.mono ?_); rintro e w4 ⟨rfl, b4⟩; have B4 := Lib.hid b4; clear b4)
                | fail)
              go_ret
              exact ⟨rfl, by rw [hg]; exact B4.out⟩
      · go_wp2_with (first
          | (go_at_call 10; (with_reducible refine C1.out.mono ?_); rintro e w1 ⟨rfl, h1⟩; have H1 := Lib.hid h1; clear h1)
          | fail)
        have k0 : (0 : Int) ≤ (k : Int) := by omega
        clear C1 HF
        go_loopw [11] (fun s11 wx => ∃ (j : Nat), j ≤ m ∧ s11 = .int .i64 j ∧ Hid (Has g w k t wx)) (fun s11 _ => m - (intOf s11).toNat)
        case atStart => exact ⟨0, by omega, rfl, H1⟩
        case round =>
          clear i0 i1
          obtain ⟨j, hjm, rfl, HH⟩ := hrel
          clear H1
          by_cases hgo : j < m ∧ j < 30
          · have i0 : (0 : Int) ≤ (j : Int) := by omega
            have i1 : (j : Int) < (m : Int) := by omega
            have i2 : (j : Int) < 30 := by omega
            obtain ⟨a, hax⟩ : ∃ a, more[j]? = some a := ⟨_, List.getElem?_eq_getElem (by have := HLB.out; omega)⟩
            obtain ⟨ad, hAe, hal, hrd⟩ := (HM.out wr (HBW.out _ _ HH.out)).rd hax
            subst hAe
            obtain ⟨q0, q1, q2⟩ := pr hrd
            obtain ⟨-, hia, hta⟩ := HBm.out a (List.mem_of_getElem? hax)
            obtain ⟨ka, ia, ta⟩ := a
            simp only at hia hta q0 q1 q2
            have C1 := Lib.hid (CP3.out wr k HH.out ta hta)
            have C2 := Lib.hid (fun hi => CU3.out wr k HH.out ia hi hia.1 hia.2)
            clear hax hrd hta
            by_cases hk0 : ka = 0
            · subst hk0
              by_cases hik : ia = (k : Int)
              · have D1 := Lib.hid (CA.out wr k HH.out hk4)
                have D2 := Lib.hid (CC.out wr k HH.out)
                have hik2 : (ia != (k : Int)) = false := by simp [hik]
                clear hik
                go_wp2_with (first
                  | (go_at_call 14; (with_reducible refine D1.out.mono ?_); rintro e w2 ⟨rfl, rfl⟩)
                  | (go_at_call 15; (with_reducible refine D2.out.mono ?_); rintro e w2 ⟨⟨q, hq, rfl⟩, rfl⟩; have hq2 : ¬ ((q : Int) < 1) := by omega)
                  | fail)
                go_roundw
                case rel => exact ⟨j + 1, by omega, by go_num, HH⟩
                case measure => simp [intOf]; omega
              · have C2 := Lib.hid (C2.out hik)
                have hik2 : (ia != (k : Int)) = true := by simp [hik]
                clear hik
                go_wp2_with (first
                  | (go_at_call 8; (with_reducible refine C2.out.mono ?_); rintro e w1 ⟨⟨v, rfl⟩, h1⟩; have H2 := Lib.hid h1; have D1 := Lib.hid (CA.out w1 k h1 hk4); have D2 := Lib.hid (CC.out w1 k h1); clear h1)
                  | (go_at_call 14; (with_reducible refine D1.out.mono ?_); rintro e w2 ⟨rfl, rfl⟩)
                  | (go_at_call 15; (with_reducible refine D2.out.mono ?_); rintro e w2 ⟨⟨q, hq, rfl⟩, rfl⟩; have hq2 : ¬ ((q : Int) < 1) := by omega)
                  | fail)
                go_roundw
                case rel => exact ⟨j + 1, by omega, by go_num, H2⟩
                case measure => simp [intOf]; omega
            · go_wp2_with (first
                | (go_at_call 10; (with_reducible refine C1.out.mono ?_); rintro e w1 ⟨⟨v, v', rfl⟩, h1⟩; have H2 := Lib.hid h1; have D1 := Lib.hid (CA.out w1 k h1 hk4); have D2 := Lib.hid (CC.out w1 k h1); clear h1)
                | (go_at_call 14; (with_reducible refine D1.out.mono ?_); rintro e w2 ⟨rfl, rfl⟩)
                | (go_at_call 15; (with_reducible refine D2.out.mono ?_); rintro e w2 ⟨⟨q, hq, rfl⟩, rfl⟩; have hq2 : ¬ ((q : Int) < 1) := by omega)
                | fail)
              go_roundw
              case rel => exact ⟨j + 1, by omega, by go_num, H2⟩
              case measure => simp [intOf]; omega
          · have TWO : ¬ ((j : Int) < (m : Int)) ∨ ((j : Int) < (m : Int) ∧ ¬ ((j : Int) < 30)) := by omega
            clear hgo CP3 CU3
            have HB := Lib.hid (HBW.out _ _ HH.out)
            have D3 := Lib.hid (CK.out wr HB.out)
            rcases TWO with i1 | ⟨i1, i2⟩
            · go_wp2_with (first
                | (go_at_call 12; (with_reducible refine D3.out.mono ?_); rintro e w3 ⟨rfl, b3⟩; have H3 := Lib.hid (HON.out wr k HH.out w3 b3); have D4 := Lib.hid (CE.out w3 k H3.out hk4); clear b3)
                | (go_at_call 8; (with_reducible refine D4.out.mono ?_); rintro e w4 ⟨rfl, b4⟩; have B4 := Lib.hid b4; clear b4)
                | fail)
              go_ret
              exact ⟨rfl, by rw [hg]; exact B4.out⟩
            · go_wp2_with (first
                | (go_at_call 12; (with_reducible refine D3.out.mono ?_); rintro e w3 ⟨rfl, b3⟩; have H3 := Lib.hid (HON.out wr k HH.out w3 b3); have D4 := Lib.hid (CE.out w3 k H3.out hk4); clear b3)
                | (go_at_call 8; (with_reducible refine D4.out.mono ?_); rintro e w4 ⟨rfl, b4⟩; have B4 := Lib.hid b4; clear b4)
                | fail)
              go_ret
              exact ⟨rfl, by rw [hg]; exact B4.out⟩
end Go.Proofs.YtdolceefbikppaaDoor
