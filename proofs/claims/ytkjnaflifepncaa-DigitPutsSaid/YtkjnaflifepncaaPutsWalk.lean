/-
  The law of the bytes of any numbers: its walk.
-/
import Derived.Test.YtkjnaflifepncaaLaw2
set_option linter.unusedVariables false
set_option linter.unusedSimpArgs false
namespace Go.Proofs.Ytkjnaflifepncaa
open Go.RowKit

theorem puts_from_drew {w0 w : World} (h : From w0 w) : From w0 w.drew := ⟨h.below.drew⟩
theorem cell_keep {w w1 : World} {p : Addr} {v : Value} (hb : Below w.heap.size w w1) (hc : w.cell? p = some v) : w1.cell? p = some v := (hb.cell (World.block_lt_of_cell? w p hc)).trans hc

set_option maxRecDepth 20000 in
set_option maxHeartbeats 2000000 in
theorem puts_cut (A A1 : Option Addr) (n c m : Nat) (l' : List Nat) (w : World) (hL : Row w A1 m (wds l')) (hl64 : Kept (∀ x ∈ l', x < 18446744073709551616)) (hm : m ≤ 30)
    (p1 p2 : Nat) (hp1 : Kept ((D.rowO l').length = p1)) (hp2 : Kept ((D.rowS l').length = p2))
    (hmin : ∀ ts t W, (Builtin.min_ ts t #[.int .i64 (n : Int), .int .i64 30]).run Try.prog W = .ok (.int .i64 (m : Int)) W)
    (hcut : ∀ W, (Instr.slice 22 (.slice A n c) none (some (.int .i64 (m : Int))) none).run Try.prog W = .ok (.slice A1 m c) W) :
    Calls Try.prog 3 #[.slice A n c] w fun e w' => e = .returned (.bool true) ∧ Below w.heap.size w w' := by
  have hz := from_self w
  have hl10 := hL.len
  rw [wds_len] at hl10
  have HLm := Lib.hid hl10
  have hp1b : p1 ≤ 270 := by have := D.rowO_len hl64.out; rw [hp1.out] at this; omega
  have hp2b : p2 ≤ 300 := by have := D.rowS_len hl64.out; rw [hp2.out] at this; omega
  clear hl10
  have cO := Lib.hid (fun W h => ordered_any A1 m c l' W h hl64 hm)
  have cS := Lib.hid (fun W h => small_any A1 m c l' W h hl64 hm)
  have cRO := Lib.hid (fun W h => ref_rowO A1 m c l' W h hl64 hm)
  have cRS := Lib.hid (fun W h => ref_rowS A1 m c l' W h hl64 hm)
  have cE1 := Lib.hid (fun A B c d W h1 h2 => same_any A B p1 c p1 d (D.rowO l') (D.rowO l') true W h1 h2 (by omega) (by omega) ⟨D.same_self _⟩)
  have cE2 := Lib.hid (fun A B c d W h1 h2 => same_any A B p2 c p2 d (D.rowS l') (D.rowS l') true W h1 h2 (by omega) (by omega) ⟨D.same_self _⟩)
  go_enter Try.func3, Try.ntmps3
  go_wp2_with fail
  go_loopw [3] (fun i wr => ∃ j : Nat, j ≤ m ∧ i = .int .i64 j ∧ From w wr) (fun i _ => m - (intOf i).toNat)
  case atStart => exact ⟨0, Nat.zero_le _, rfl, hz⟩
  case round =>
    clear hz
    obtain ⟨j, hj, rfl, hzr⟩ := hrel
    by_cases hlt : j < m
    · obtain ⟨x, hx, hxl⟩ := at_lt (l := l') (i := j) (by rw [HLm.out]; exact hlt)
      obtain ⟨ad, rfl, cx⟩ := (hL.since hzr).cell (wds_at hx)
      have hx64 := hl64.out x hxl
      have i1 : (0 : Int) ≤ (j : Int) := by omega
      have i2 : (j : Int) < (m : Int) := by omega
      obtain ⟨r, hr⟩ : ∃ r, (D.ordd x).length = r := ⟨_, rfl⟩
      obtain ⟨s, hs⟩ : ∃ s, (D.sm x).length = s := ⟨_, rfl⟩
      have c1 := Lib.hid (fun W => size_ordered x r W hx64 ⟨hr⟩)
      have c2 := Lib.hid (fun W => size_small x s W hx64 ⟨hs⟩)
      have c3 := Lib.hid (fun W (h : From w W) => on_made (n := r) ⟨hr⟩ h (ref_ordered x W hx64))
      have c4 := Lib.hid (fun W (h : From w W) => on_made (n := s) ⟨hs⟩ h (ref_small x W hx64))
      clear hr hs hx hxl cO cS cRO cRS cE1 cE2 hL
      go_wp2_with fail
      go_region_held3 (fun w' => w'.cell? (ad.add j) = some (.int .u64 x)) (go_keep) (first
        | (go_at_call 8; (with_reducible refine (c1.out _).mono ?_); rintro e w5 ⟨rfl, rfl⟩)
        | (go_at_call 9; (with_reducible refine (c3.out _ (puts_from_drew hzr)).mono ?_); rintro e w6 ⟨A6, c6, rfl, h61, h62, r6, hz6, hb6⟩; have hc6 := cell_keep hb6 cx)
        | (go_at_call 10; (with_reducible refine (c2.out _).mono ?_); rintro e w7 ⟨rfl, rfl⟩)
        | (go_at_call 11; (with_reducible refine (c4.out _ hz6).mono ?_); rintro e w8 ⟨A8, c8, rfl, h81, h82, r8, hz8, hb8⟩; have hc8 := cell_keep hb8 hc6))
      all_goals
        go_wp2
        go_roundw
        case rel => exact ⟨j + 1, by omega, by go_num, hz8⟩
        case measure => simp [intOf]; omega
    · go_wp2_with (first
        | (go_at_call 12; (with_reducible refine (on hzr (known_any _)).mono ?_); rintro e w1 ⟨rfl, hz1⟩)
        | (go_at_call 14; (with_reducible refine (on_made (n := p1) hp1 hz1 (cO.out _ (hL.since hz1))).mono ?_); rintro e w2 ⟨A2, c2, rfl, h21, h22, r2, hz2, hb2⟩)
        | (go_at_call 15; (with_reducible refine (on_made (n := p1) hp1 hz2 (cRO.out _ (hL.since hz2))).mono ?_); rintro e w3 ⟨A3, c3, rfl, h31, h32, r3, hz3, hb3⟩)
        | (go_at_call 13; (with_reducible refine (cE1.out _ _ _ _ _ (r2.on hb3) r3).mono ?_); rintro e w4 ⟨rfl, q4, rfl⟩)
        | (go_at_call 16; (with_reducible refine (on_made (n := p2) hp2 (hz3.drewN _) (cS.out _ (hL.since (hz3.drewN _)))).mono ?_); rintro e w5 ⟨A5, c5, rfl, h51, h52, r5, hz5, hb5⟩)
        | (go_at_call 15; (with_reducible refine (on_made (n := p2) hp2 hz5 (cRS.out _ (hL.since hz5))).mono ?_); rintro e w6 ⟨A6, c6, rfl, h61, h62, r6, hz6, hb6⟩)
        | (go_at_call 13; (with_reducible refine (cE2.out _ _ _ _ _ (r5.on hb6) r6).mono ?_); rintro e w7 ⟨rfl, q7, rfl⟩))
      go_ret
      exact ⟨rfl, (hz6.drewN _).below⟩

theorem puts_all (a : Option Addr) (len cap : Nat) (zs : List Int) (W : World) (h : IsRow .u64 W a len cap zs) :
    Calls Try.prog 3 #[.slice a len cap] W fun e w' => e = .returned (.bool true) ∧ Below W.heap.size W w' := by
  obtain ⟨l, hr, hl, h3, h4⟩ := h.words
  obtain ⟨m, hm1, hm2, hmin⟩ := min_run len 30 30 rfl
  obtain ⟨A1, hcut, hR⟩ := upto_run_w a len cap m m rfl (by omega)
  have q1 := hR W _ hr hm1
  rw [wds_take] at q1
  exact puts_cut a A1 len cap m _ W q1 ⟨fun x hx => hl.out x (List.mem_of_mem_take hx)⟩ hm2 _ _ ⟨rfl⟩ ⟨rfl⟩ hmin hcut
end Go.Proofs.Ytkjnaflifepncaa
