/-
  Pins put in and taken out.
-/
import Derived.Test.YtdolceefbikppaaDoorPtb
set_option linter.unusedVariables false
set_option linter.unusedSimpArgs false
set_option maxRecDepth 100000
namespace Go.Proofs.YtdolceefbikppaaDoor
open Go.RowKit
attribute [local go_sem ↓] Go.wp_at_zero Go.wp_at_succ
theorem Cnt.look {base : Nat} {w : World} {m : Option Nat} {l : D.Ps} (h : Cnt base w m l) {x : Nat} (hx : x < 18446744073709551616) : (Instr.lookup 25 (.map m) (.int .u64 (x : Nat)) false).run Tryd.prog w = .ok (.int .i64 (D.cn l x : Nat)) w := by
  cases m with
  | none =>
    rw [Maps.look_nil false law_w Tryd.underlying25 (zero_int w) (kl_is hx), h.none_ rfl x]
    rfl
  | some b =>
    obtain ⟨_, K, h1, _⟩ := h.some_ b rfl
    exact h1.look hx
theorem count_any {base g : Nat} {w : World} {m : Option Nat} {l : D.Ps} (h : Tab base w g m l) (x : Nat) (hx : x < 18446744073709551616) : Calls Tryd.prog 15 #[.pointer (some ⟨g, 0, none⟩), .int .u64 (x : Nat)] w fun e w' => e = .returned (.int .i64 (D.cn l x : Nat)) ∧ w = w' := by
  have CC := Lib.hid (counts_any h)
  have hlk := h.cnt.look hx
  clear h
  go_enter Tryd.func15, Tryd.ntmps15
  go_wp2_with (go_at_call 26; (with_reducible refine CC.out.mono ?_); rintro e w1 ⟨rfl, rfl⟩)
  go_ret
  exact ⟨rfl, rfl⟩
theorem count_nil (w : World) (x : Nat) (hx : x < 18446744073709551616) : Calls Tryd.prog 15 #[.pointer none, .int .u64 (x : Nat)] w fun e w' => e = .returned (.int .i64 0) ∧ w = w' := by
  have CC := Lib.hid (counts_nil w)
  have hlk := Maps.look_nil (P := Tryd.prog) false law_w Tryd.underlying25 (zero_int w) (kl_is hx)
  simp only [Bool.false_eq_true, if_false] at hlk
  go_enter Tryd.func15, Tryd.ntmps15
  go_wp2_with (go_at_call 26; (with_reducible refine CC.out.mono ?_); rintro e w1 ⟨rfl, rfl⟩)
  go_ret
  exact ⟨rfl, rfl⟩
theorem at_any {base g : Nat} {w : World} {m : Option Nat} {l : D.Ps} (h : Tab base w g m l) (i : Int) (h1 : -9223372036854775808 ≤ i) (h2 : i ≤ 9223372036854775807) : Calls Tryd.prog 14 #[.pointer (some ⟨g, 0, none⟩), .int .i64 i] w fun e w' => e = .returned (.tuple #[.int .u64 (((D.pn l i).getD 0 : Nat) : Int), .bool (D.pn l i).isSome]) ∧ w = w' := by
  have CH := Lib.hid (has_any h i h1 h2)
  cases hp : D.pn l i with
  | none =>
    rw [hp] at CH
    have CH : Hid (Calls Tryd.prog 19 #[.pointer (some ⟨g, 0, none⟩), .int .i64 i] w fun e w' => e = .returned (.bool false) ∧ w = w') := CH
    clear h hp
    go_enter Tryd.func14, Tryd.ntmps14
    go_wp2_with (go_at_call 19; (with_reducible refine CH.out.mono ?_); rintro e w1 ⟨rfl, rfl⟩)
    refine bodyPost_ret (results_tmp2 rfl _ _ _) rfl ⟨rfl, rfl⟩
  | some t =>
    rw [hp] at CH
    have CH : Hid (Calls Tryd.prog 19 #[.pointer (some ⟨g, 0, none⟩), .int .i64 i] w fun e w' => e = .returned (.bool true) ∧ w = w') := CH
    have hi : 0 ≤ i := by
      rcases Int.lt_or_le i 0 with h3 | h3
      · rw [D.pn_no h.len (by omega)] at hp; cases hp
      · exact h3
    have hi4 : i < 64 := by
      rcases Int.lt_or_le i 64 with h3 | h3
      · exact h3
      · rw [D.pn_no h.len (by omega)] at hp; cases hp
    obtain ⟨k, rfl⟩ : ∃ k : Nat, i = k := ⟨i.toNat, by omega⟩
    have hk : l[k]? = some (some t) := by
      rw [D.pn_at, List.getD_eq_getElem?_getD] at hp
      cases hq : l[k]? with
      | none => rw [hq] at hp; cases hp
      | some o => rw [hq] at hp; exact congrArg some hp
    have hc := h.ct hk
    clear h hp hk
    go_enter Tryd.func14, Tryd.ntmps14
    go_wp2_with (go_at_call 19; (with_reducible refine CH.out.mono ?_); rintro e w1 ⟨rfl, rfl⟩)
    refine bodyPost_ret (results_tmp2 rfl _ _ _) rfl ⟨rfl, rfl⟩
theorem at_nil (w : World) (i : Int) (h1 : -9223372036854775808 ≤ i) (h2 : i ≤ 9223372036854775807) : Calls Tryd.prog 14 #[.pointer none, .int .i64 i] w fun e w' => e = .returned (.tuple #[.int .u64 0, .bool false]) ∧ w = w' := by
  have CH := Lib.hid (has_nil w i h1 h2)
  go_enter Tryd.func14, Tryd.ntmps14
  go_wp2_with (go_at_call 19; (with_reducible refine CH.out.mono ?_); rintro e w1 ⟨rfl, rfl⟩)
  refine bodyPost_ret (results_tmp2 rfl _ _ _) rfl ⟨rfl, rfl⟩
set_option maxHeartbeats 1000000 in
theorem leave_any {g b t c : Nat} {w : World} {K : List Nat} {f : Nat → Nat} (hc : w.cell? ⟨g, 65, none⟩ = some (.map (some b))) (hgb : g ≠ b) (hM : MpAt w b K f) (hK : K.length ≤ 900) (ht : t < 18446744073709551616) (hf : f t = c + 1) (hc9 : c ≤ 900) (htK : t ∈ K) :
    Calls Tryd.prog 20 #[.pointer (some ⟨g, 0, none⟩), .int .u64 (t : Nat)] w fun e w' => (∃ v, e = .returned v) ∧ MpAt w' b (if c = 0 then K.erase t else K) (fun y => if y = t then c else f y) ∧ Only (fun i => i = b) w w' := by
  have hl1 := hM.look ht
  rw [hf] at hl1
  obtain ⟨w1, hu, hM1, hg1⟩ := hM.put (v := c) (by omega) ht (by omega) (c : Int) rfl
  have o1 : Only (fun i => i = b) w w1 := (Only.self _ _).grown hg1 fun k e => .inl (by injection e with e; exact e.symm)
  have hc1 : w1.cell? ⟨g, 65, none⟩ = some (.map (some b)) := by
    rw [← hc]
    exact World.cell?_of_block (w := w) (o1.block g (World.block_lt_of_cell? w _ hc) hgb)
  rw [if_pos htK] at hM1
  have hl2 := hM1.look ht
  rw [if_pos rfl] at hl2
  have e1 : ((c + 1 : Nat) : Int) - 1 = (c : Int) := by omega
  have hl1 : (Instr.lookup 25 (.map (some b)) (.int .u64 (t : Nat)) false).run Tryd.prog w = .ok (.int .i64 ((c : Int) + 1)) w := hl1
  have e2 : (c : Int) + 1 - 1 = (c : Int) := by omega
  by_cases h0 : c = 0
  · subst h0
    obtain ⟨w2, hd, hM2, hg2⟩ := hM1.drop ht 0
    have o2 : Only (fun i => i = b) w w2 := o1.grown hg2 fun k e => .inl (by injection e with e; exact e.symm)
    have HM := Lib.hid hM2
    have HO := Lib.hid o2
    have hl1 : (Instr.lookup 25 (.map (some b)) (.int .u64 (t : Nat)) false).run Tryd.prog w = .ok (.int .i64 1) w := hl1
    have hu : (Instr.mapUpdate 25 (.map (some b)) (.int .u64 (t : Nat)) (.int .i64 0)).run Tryd.prog w = .ok () w1 := hu
    have hl2 : (Instr.lookup 25 (.map (some b)) (.int .u64 (t : Nat)) false).run Tryd.prog w1 = .ok (.int .i64 0) w1 := hl2
    have hc2 := hc1
    clear hM hM1 hM2 o1 o2 hg1 hg2
    go_enter Tryd.func20, Tryd.ntmps20
    go_wp2
    go_end0
    exact ⟨⟨_, rfl⟩, HM.out.same (fun x hx => by by_cases e : x = t <;> simp [e]), HO.out⟩
  · have h3 : ¬ ((c : Int) = 0) := by omega
    have HM := Lib.hid hM1
    have HO := Lib.hid o1
    clear hM hM1 o1 hg1
    go_enter Tryd.func20, Tryd.ntmps20
    go_wp2
    go_end0
    exact ⟨⟨_, rfl⟩, HM.out, HO.out⟩
end Go.Proofs.YtdolceefbikppaaDoor
