/-
  A table of pins in memory; word, counts, has, At, Count.
-/
import Derived.Test.YtdolceefbikppaaDoorPmp
import Derived.Test.YtdolceefbikppaaDoorPtz
import Derived.Test.YtdolceefbikppaaDoorCxt
import Derived.IntWalk
import Derived.StillTailTactics
set_option linter.unusedVariables false
set_option linter.unusedSimpArgs false
set_option maxRecDepth 100000
namespace Go.Proofs.YtdolceefbikppaaDoor
open Go.RowKit
attribute [local go_sem ↓] Go.wp_at_zero Go.wp_at_succ
/-- A table's cells. -/
def tc (l : D.Ps) (ts : List Nat) (m : Option Nat) : Array Value := (Value.int .u64 (D.wd l : Nat) :: (wds ts ++ [Value.map m])).toArray
theorem tc_0 (l : D.Ps) (ts : List Nat) (m : Option Nat) : (tc l ts m)[0]? = some (.int .u64 (D.wd l : Nat)) := by simp [tc]
theorem tc_t (l : D.Ps) {ts : List Nat} (m : Option Nat) {i t : Nat} (h : ts[i]? = some t) : (tc l ts m)[1 + i]? = some (.int .u64 (t : Nat)) := by
  have hi := (List.getElem?_eq_some_iff.1 h).1
  rw [tc, List.getElem?_toArray, Nat.add_comm, List.getElem?_cons_succ, List.getElem?_append_left (by rw [wds_len]; exact hi)]
  exact wds_at h
theorem tc_m (l : D.Ps) {ts : List Nat} (m : Option Nat) (h : ts.length = 64) : (tc l ts m)[65]? = some (.map m) := by
  rw [tc, List.getElem?_toArray, List.getElem?_cons_succ, List.getElem?_append_right (by rw [wds_len]; omega), wds_len, h]
  rfl
theorem tc_set0 (l l' : D.Ps) (ts : List Nat) (m : Option Nat) : (tc l ts m).setIfInBounds 0 (.int .u64 (D.wd l' : Nat)) = tc l' ts m := by
  simp [tc]
theorem tc_sett (l : D.Ps) (ts : List Nat) (m : Option Nat) (i t : Nat) (h : i < ts.length) : (tc l ts m).setIfInBounds (1 + i) (.int .u64 (t : Nat)) = tc l (ts.set i t) m := by
  rw [tc, tc, List.setIfInBounds_toArray, Nat.add_comm, List.set_cons_succ, List.set_append_left _ _ (by rw [wds_len]; exact h)]
  simp [wds, List.map_set]
theorem tc_setm (l : D.Ps) (ts : List Nat) (m m' : Option Nat) (h : ts.length = 64) : (tc l ts m).setIfInBounds 65 (.map m') = tc l ts m' := by
  rw [tc, tc, List.setIfInBounds_toArray, List.set_cons_succ, List.set_append_right _ _ (by rw [wds_len]; omega), wds_len, h]
  rfl
/-- What a table's map says. -/
structure Cnt (base : Nat) (w : World) (m : Option Nat) (l : D.Ps) : Prop where
  none_ : m = none → ∀ x, D.cn l x = 0
  some_ : ∀ b, m = some b → base ≤ b ∧ ∃ K, MpAt w b K (D.cn l) ∧ ∀ x, x ∈ K ↔ 0 < D.cn l x
/-- A table of these pins. -/
structure Tab (base : Nat) (w : World) (g : Nat) (m : Option Nat) (l : D.Ps) : Prop where
  blk : ∃ ts, Blk w g 27 (tc l ts m) ∧ ts.length = 64 ∧ ∀ i t : Nat, l[i]? = some (some t) → ts[i]? = some t
  len : l.length = 64
  lt : ∀ t, some t ∈ l → t < 18446744073709551616
  le : base ≤ g
  cnt : Cnt base w m l
/-- The blocks of a table. -/
def Tf (g : Nat) (m : Option Nat) (i : Nat) : Prop := i = g ∨ m = some i
section
variable {base g : Nat} {w w' : World} {m : Option Nat} {l : D.Ps}
theorem Cnt.on (h : Cnt base w m l) (hb : Below w.heap.size w w') : Cnt base w' m l := ⟨h.none_, fun b e => let ⟨h1, K, h2, h3⟩ := h.some_ b e; ⟨h1, K, h2.on hb, h3⟩⟩
theorem Tab.on (h : Tab base w g m l) (hb : Below w.heap.size w w') : Tab base w' g m l := ⟨let ⟨ts, h1, h2⟩ := h.blk; ⟨ts, h1.on hb, h2⟩, h.len, h.lt, h.le, h.cnt.on hb⟩
theorem Tab.lt_ (h : Tab base w g m l) : g < w.heap.size := let ⟨_, h1, _⟩ := h.blk; h1.lt
theorem Tab.mlt (h : Tab base w g m l) {b : Nat} (e : m = some b) : b < w.heap.size := let ⟨_, K, h2, _⟩ := h.cnt.some_ b e; h2.lt_
theorem Tab.ge (h : Tab base w g m l) : ∀ i, Tf g m i → base ≤ i
  | _, .inl rfl => h.le
  | i, .inr e => (h.cnt.some_ i e).1
theorem Tab.c0 (h : Tab base w g m l) : w.cell? ⟨g, 0, none⟩ = some (.int .u64 (D.wd l : Nat)) := by
  obtain ⟨ts, hB, _⟩ := h.blk
  rw [hB.c, tc_0]
theorem Tab.cm (h : Tab base w g m l) : w.cell? ⟨g, 65, none⟩ = some (.map m) := by
  obtain ⟨ts, hB, hl, _⟩ := h.blk
  rw [hB.c, tc_m _ _ hl]
theorem Tab.ct (h : Tab base w g m l) {i t : Nat} (hi : l[i]? = some (some t)) : w.cell? ⟨g, 1 + i, none⟩ = some (.int .u64 (t : Nat)) := by
  obtain ⟨ts, hB, hl, ht⟩ := h.blk
  rw [hB.c, tc_t _ _ (ht i t hi)]
theorem Tab.f (h : Tab base w g m l) (i : Nat) : w.frozen? ⟨g, i, none⟩ = false := by
  obtain ⟨ts, hB, _⟩ := h.blk
  exact hB.f i
end
theorem tab_new (base : Nat) (w : World) (hb : base ≤ w.heap.size) : Tab base (w.alloc (.cells (tc (List.replicate 64 none) (List.replicate 64 0) none) 27)) w.heap.size none (List.replicate 64 none) :=
  ⟨⟨_, Blk.new _ _ _, by simp, fun i t h => by rw [List.getElem?_replicate] at h; split at h <;> simp at h⟩, by simp, fun t h => by simp at h, hb, ⟨fun _ x => by simp [D.cn, List.count_replicate], fun b e => by cases e⟩⟩
theorem word_any {base g : Nat} {w : World} {m : Option Nat} {l : D.Ps} (h : Tab base w g m l) : Calls Tryd.prog 25 #[.pointer (some ⟨g, 0, none⟩)] w fun e w' => e = .returned (.int .u64 (D.wd l : Nat)) ∧ w = w' := by
  have c0 := h.c0
  clear h
  go_enter Tryd.func25, Tryd.ntmps25
  go_wp2
  go_ret
  exact ⟨rfl, rfl⟩
theorem word_nil (w : World) : Calls Tryd.prog 25 #[.pointer none] w fun e w' => e = .returned (.int .u64 0) ∧ w = w' := by
  go_enter Tryd.func25, Tryd.ntmps25
  go_wp2
  go_ret
  exact ⟨rfl, rfl⟩
theorem counts_any {base g : Nat} {w : World} {m : Option Nat} {l : D.Ps} (h : Tab base w g m l) : Calls Tryd.prog 26 #[.pointer (some ⟨g, 0, none⟩)] w fun e w' => e = .returned (.map m) ∧ w = w' := by
  have c0 := h.cm
  clear h
  go_enter Tryd.func26, Tryd.ntmps26
  go_wp2
  go_ret
  exact ⟨rfl, rfl⟩
theorem counts_nil (w : World) : Calls Tryd.prog 26 #[.pointer none] w fun e w' => e = .returned (.map none) ∧ w = w' := by
  go_enter Tryd.func26, Tryd.ntmps26
  go_wp2
  go_ret
  exact ⟨rfl, rfl⟩
/-- The pin of a number, of any int. -/
def D.pn (l : D.Ps) (i : Int) : Option Nat := if 0 ≤ i then l.getD i.toNat none else none
theorem D.pn_no {l : D.Ps} {i : Int} (hl : l.length = 64) (h : ¬ (0 ≤ i ∧ i < 64)) : D.pn l i = none := by
  unfold D.pn
  split
  · rw [List.getD_eq_getElem?_getD, List.getElem?_eq_none (by omega)]; rfl
  · rfl
theorem D.pn_at (l : D.Ps) (k : Nat) : D.pn l (k : Int) = l.getD k none := by
  unfold D.pn; rw [if_pos (by omega)]; rfl
set_option maxHeartbeats 1000000 in
theorem has_any {base g : Nat} {w : World} {m : Option Nat} {l : D.Ps} (h : Tab base w g m l) (i : Int) (h1 : -9223372036854775808 ≤ i) (h2 : i ≤ 9223372036854775807) : Calls Tryd.prog 19 #[.pointer (some ⟨g, 0, none⟩), .int .i64 i] w fun e w' => e = .returned (.bool (D.pn l i).isSome) ∧ w = w' := by
  have CW := Lib.hid (word_any h)
  have hl := h.len
  have hw := D.wd_lt l
  rw [hl] at hw
  by_cases h0 : 0 ≤ i ∧ i < 64
  · obtain ⟨k, rfl⟩ : ∃ k : Nat, i = k := ⟨i.toNat, by omega⟩
    have hs := D.wd_shift l k
    rw [D.pn_at]
    obtain ⟨b, hb⟩ : ∃ b, (l.getD k none).isSome = b := ⟨_, rfl⟩
    rw [hb] at hs ⊢
    obtain ⟨u, hu⟩ : ∃ u, D.wd l = u := ⟨_, rfl⟩
    rw [hu] at hs hw CW
    have j0 : (0 : Int) ≤ (k : Int) := by omega
    have j1 : (k : Int) < 64 := by omega
    have HS := Lib.hid hs
    have HA : Hid (bits .and .u64 ((u : Int) / 2 ^ k) 1 = ((u / 2 ^ k % 2 : Nat) : Int)) := Lib.hid (by
      have hq : u / 2 ^ k < 18446744073709551616 := Nat.lt_of_le_of_lt (Nat.div_le_self _ _) hw
      rw [cast_div_pow]
      have := bits_and_u64_nat (u / 2 ^ k) 1 hq (by decide)
      rw [Nat.and_one_is_mod] at this
      exact this)
    clear h hs hb hu h0
    go_enter Tryd.func19, Tryd.ntmps19
    go_wp2_with (first
      | (go_at_call 25; (with_reducible refine CW.out.mono ?_); rintro e w1 ⟨rfl, rfl⟩)
      | fail)
    go_ret
    refine ⟨bool_of ?_, rfl⟩
    rw [HA.out, HS.out]
    cases b <;> rfl
  · rw [D.pn_no hl h0]
    clear h hw
    rcases Int.lt_or_le i 0 with h3 | h3
    · have h4 : ¬ (0 ≤ i) := by omega
      go_enter Tryd.func19, Tryd.ntmps19
      go_wp2_with (first
        | (go_at_call 25; (with_reducible refine CW.out.mono ?_); rintro e w1 ⟨rfl, rfl⟩)
        | fail)
      go_ret
      exact ⟨rfl, rfl⟩
    · have h4 : ¬ (i < 64) := by omega
      go_enter Tryd.func19, Tryd.ntmps19
      go_wp2_with (first
        | (go_at_call 25; (with_reducible refine CW.out.mono ?_); rintro e w1 ⟨rfl, rfl⟩)
        | fail)
      go_ret
      exact ⟨rfl, rfl⟩
theorem has_nil (w : World) (i : Int) (h1 : -9223372036854775808 ≤ i) (h2 : i ≤ 9223372036854775807) : Calls Tryd.prog 19 #[.pointer none, .int .i64 i] w fun e w' => e = .returned (.bool false) ∧ w = w' := by
  have CW := Lib.hid (word_nil w)
  rcases Int.lt_or_le i 0 with h3 | h3
  · have h4 : ¬ (0 ≤ i) := by omega
    go_enter Tryd.func19, Tryd.ntmps19
    go_wp2_with (fail)
    go_ret
    exact ⟨rfl, rfl⟩
  · rcases Int.lt_or_le i 64 with h4 | h4
    · obtain ⟨k, rfl⟩ : ∃ k : Nat, i = k := ⟨i.toNat, by omega⟩
      have HZ : Hid ((0 : Int) / 2 ^ k = 0) := Lib.hid (by simp)
      have HZ2 : Hid (bits .and .u64 0 1 = 0) := Lib.hid (by rfl)
      go_enter Tryd.func19, Tryd.ntmps19
      go_wp2_with (first
        | (go_at_call 25; (with_reducible refine CW.out.mono ?_); rintro e w1 ⟨rfl, rfl⟩)
        | simp only [HZ.out, HZ2.out])
      go_ret
      exact ⟨rfl, rfl⟩
    · have h5 : ¬ (i < 64) := by omega
      go_enter Tryd.func19, Tryd.ntmps19
      go_wp2_with (fail)
      go_ret
      exact ⟨rfl, rfl⟩
end Go.Proofs.YtdolceefbikppaaDoor
