/-
  What is looked for in a row of ints; the program's Pick.
-/
import Derived.Test.YtpiajeonnhfanaaDoorPlo
set_option linter.unusedVariables false
set_option linter.unusedSimpArgs false
set_option maxRecDepth 100000
namespace Go.Proofs.YtpiajeonnhfanaaDoor
open Go.RowKit
attribute [local go_sem ↓] Go.wp_at_zero Go.wp_at_succ ld_a ld_n st_a st_n eq_a eq_n ne_a ne_n lv_a lv_n lp_3 lp_4
attribute [local go_sem] run_ld_a run_ld_n run_sw_a run_sw_n run_eq_a run_eq_n run_ne_a run_ne_n run_lv_a run_lv_n st_z ne_z eq_z rd_new rd_old rd_drew rd_drewN rd_set tn_new tn_old tn_drew tn_drewN setRow_alloc run_lp_3 run_lp_4

def zs (l : List Int) : List Value := l.map fun b => .int .i64 b
theorem zs_len (l : List Int) : (zs l).length = l.length := by simp [zs]
theorem zs_at {l : List Int} {i : Nat} {b : Int} (h : l[i]? = some b) : (zs l)[i]? = some (.int .i64 b) := by simp [zs, h]
set_option maxHeartbeats 2000000 in
theorem index_any (A : Option Addr) (n c : Nat) (l : List Int) (z : Int) (w : World) (hr : Row w A n (zs l)) (hn : n ≤ 1000000) :
    Calls Tryd.prog 37 #[.slice A n c, .int .i64 z] w fun e w' => (∃ r : Int, e = .returned (.int .i64 r) ∧ Kept (decide (0 ≤ r) = decide (z ∈ l))) ∧ w = w' := by
  have hlen := hr.len
  rw [zs_len] at hlen
  go_enter Tryd.func37, Tryd.ntmps37
  go_wp2
  go_loopw [8] (fun i wr => ∃ k : Nat, k ≤ n ∧ i = .int .i64 k ∧ Kept (∀ j, j < k → l[j]? ≠ some z) ∧ wr = w) (fun i _ => n - (intOf i).toNat)
  case atStart => exact ⟨0, Nat.zero_le _, rfl, ⟨fun j hj => by omega⟩, rfl⟩
  case round =>
    obtain ⟨k, hk, rfl, HN, rfl⟩ := hrel
    by_cases hlt : k < n
    · have hkl : k < l.length := by omega
      obtain ⟨b, hb⟩ : ∃ b, l[k]? = some b := ⟨_, List.getElem?_eq_getElem hkl⟩
      obtain ⟨ad, rfl, hc⟩ := hr.cell (zs_at hb)
      have hI : (k : Int) < n := by omega
      by_cases e : z = b
      · have HA : Kept (decide (0 ≤ (k : Int)) = decide (z ∈ l)) := ⟨by rw [decide_eq_true (show 0 ≤ (k : Int) by omega), decide_eq_true (show z ∈ l from List.mem_of_getElem? (e ▸ hb))]⟩
        subst e
        clear HN hb hr hlen hkl
        go_wp2
        go_ret
        exact ⟨⟨_, rfl, HA⟩, rfl⟩
      · have HN' : Kept (∀ j, j < k + 1 → l[j]? ≠ some z) := ⟨fun j hj => by
          obtain h | rfl : j < k ∨ j = k := by omega
          · exact HN.out j h
          · rw [hb]; intro h; injection h with h; exact e h.symm⟩
        have e' : (z == b) = false := by simpa using e
        clear HN hb hr hlen hkl
        go_wp2
        go_roundw
        case rel => exact ⟨k + 1, by omega, by go_num, HN', trivial⟩
        case measure => simp [intOf]; omega
    · obtain rfl : k = n := by omega
      have HA : Kept (decide (0 ≤ (-1 : Int)) = decide (z ∈ l)) := ⟨by
        rw [decide_eq_false (show ¬ 0 ≤ (-1 : Int) by omega), eq_comm, decide_eq_false_iff_not]
        intro h
        obtain ⟨j, hj, e⟩ := List.mem_iff_getElem.1 h
        exact HN.out j (by omega) (by rw [List.getElem?_eq_getElem hj, e])⟩
      clear HN hr
      go_wp2
      go_ret
      exact ⟨⟨_, rfl, HA⟩, rfl⟩
theorem contains_any (A : Option Addr) (n c : Nat) (l : List Int) (z : Int) (w : World) (hr : Row w A n (zs l)) (hn : n ≤ 1000000) :
    Calls Tryd.prog 26 #[.slice A n c, .int .i64 z] w fun e w' => e = .returned (.bool (decide (z ∈ l))) ∧ w = w' := by
  have C := Lib.hid (index_any A n c l z w hr hn)
  clear hr
  go_enter Tryd.func26, Tryd.ntmps26
  go_wp2_with (go_at_call 37; (with_reducible refine C.out.mono ?_); rintro e w1 ⟨⟨r, rfl, HA⟩, rfl⟩)
  go_ret
  exact ⟨bool_of HA.out, rfl⟩
/-- One of two numbers. -/
noncomputable def ixa (v i : Value) : Sem Value := Instr.index 71 v i
theorem ix_a (v i : Value) : Instr.index 71 v i = ixa v i := rfl
theorem run_ixa0 (a b : Int) (w : World) : (ixa (.agg #[.int .i64 a, .int .i64 b]) (.int .i64 0)).run Tryd.prog w = .ok (.int .i64 a) w := by kernel_rfl
theorem run_ixa1 (a b : Int) (w : World) : (ixa (.agg #[.int .i64 a, .int .i64 b]) (.int .i64 1)).run Tryd.prog w = .ok (.int .i64 b) w := by kernel_rfl
attribute [local go_sem ↓] ix_a
attribute [local go_sem] run_ixa0 run_ixa1
/-- What is picked. -/
def D.pick (c : Int) (l : List Int) : Int × Bool := if c ∈ l then (c, true) else if 5 ∈ l then (5, true) else (0, false)
set_option maxHeartbeats 4000000 in
theorem pick_any (x : D.Tg) (n : Nat) (A : Option Addr) (m c : Nat) (l : List Int) (w : World) (hr : Row w A m (zs l)) (hm : m ≤ 1000000) :
    Calls Tryd.prog 17 #[.agg (nc x), .int .u64 n, .slice A m c] w fun e w' => e = .returned (.tuple #[.int .i64 (D.pick (D.pof (D.gr x) n : Nat) l).1, .bool (D.pick (D.pof (D.gr x) n : Nat) l).2]) ∧ Below w.heap.size w w' := by
  have f0 := rd_new w w.heap.size 25 x rfl
  have cO := fun W => of_any x n W
  obtain ⟨q, hq⟩ : ∃ q, D.pof (D.gr x) n = q := ⟨_, rfl⟩
  rw [hq] at cO ⊢
  have CO := Lib.hid cO
  clear cO hq
  go_enter Tryd.func17, Tryd.ntmps17
  go_wp2_with (go_at_call 8; (with_reducible refine (CO.out _).mono ?_); rintro e w1 ⟨rfl, b1⟩; have z1 := (Fw.self w).alloc (.cells (nc x) 25) |>.on b1)
  have r1 := (hr.alloc (.cells (nc x) 25)).on b1
  clear CO f0 hr b1
  have C := fun z => contains_any A m c l z w1 r1 hm
  go_loopw [14] (fun i wr => ∃ k : Nat, k ≤ 2 ∧ (k = 0 → i = .int .i64 0) ∧ (k = 1 → i = .int .i64 1) ∧ (k = 2 → i = .int .i64 2) ∧ Kept (1 ≤ k → (q : Int) ∉ l) ∧ Kept (2 ≤ k → (5 : Int) ∉ l) ∧ wr = w1) (fun i _ => 2 - (intOf i).toNat)
  case atStart => exact ⟨0, Nat.zero_le _, fun _ => rfl, fun h => by omega, fun h => by omega, ⟨fun h => by omega⟩, ⟨fun h => by omega⟩, rfl⟩
  case round =>
    obtain ⟨k, hk, h0, h1, h2, K1, K2, rfl⟩ := hrel
    obtain rfl | rfl | rfl : k = 0 ∨ k = 1 ∨ k = 2 := by omega
    · obtain rfl := h0 rfl
      clear h0 h1 h2 K1 K2
      have cq := C q
      obtain ⟨b, hb⟩ : ∃ b, decide ((q : Int) ∈ l) = b := ⟨_, rfl⟩
      rw [hb] at cq
      have CQ := Lib.hid cq
      clear cq C
      cases b
      · have hn : Kept ((q : Int) ∉ l) := ⟨of_decide_eq_false hb⟩
        clear hb
        go_wp2_with (go_at_call 26; (with_reducible refine CQ.out.mono ?_); rintro e w2 ⟨rfl, rfl⟩)
        go_roundw
        case rel => exact ⟨1, by omega, fun h => by omega, fun _ => rfl, fun h => by omega, ⟨fun _ => hn.out⟩, ⟨fun h => by omega⟩, trivial⟩
        case measure => simp [intOf]
      · have hp : Kept (D.pick q l = ((q : Int), true)) := ⟨by unfold D.pick; rw [if_pos (of_decide_eq_true hb)]⟩
        clear hb
        go_wp2_with (go_at_call 26; (with_reducible refine CQ.out.mono ?_); rintro e w2 ⟨rfl, rfl⟩)
        go_ret2
        exact ⟨by rw [hp.out]; rfl, z1.below⟩
    · obtain rfl := h1 rfl
      have hn : Kept ((q : Int) ∉ l) := ⟨K1.out (by omega)⟩
      clear h0 h1 h2 K1 K2
      have cq := C 5
      obtain ⟨b, hb⟩ : ∃ b, decide ((5 : Int) ∈ l) = b := ⟨_, rfl⟩
      rw [hb] at cq
      have CQ := Lib.hid cq
      clear cq C
      cases b
      · have hn5 : Kept ((5 : Int) ∉ l) := ⟨of_decide_eq_false hb⟩
        clear hb
        go_wp2_with (go_at_call 26; (with_reducible refine CQ.out.mono ?_); rintro e w2 ⟨rfl, rfl⟩)
        go_roundw
        case rel => exact ⟨2, by omega, fun h => by omega, fun h => by omega, fun _ => rfl, ⟨fun _ => hn.out⟩, ⟨fun _ => hn5.out⟩, trivial⟩
        case measure => simp [intOf]
      · have hp : Kept (D.pick q l = (5, true)) := ⟨by unfold D.pick; rw [if_neg hn.out, if_pos (of_decide_eq_true hb)]⟩
        clear hb
        go_wp2_with (go_at_call 26; (with_reducible refine CQ.out.mono ?_); rintro e w2 ⟨rfl, rfl⟩)
        go_ret2
        exact ⟨by rw [hp.out]; rfl, z1.below⟩
    · obtain rfl := h2 rfl
      have hp : Kept (D.pick q l = (0, false)) := ⟨by unfold D.pick; rw [if_neg (K1.out (by omega)), if_neg (K2.out (by omega))]⟩
      clear h0 h1 h2 K1 K2 C
      go_wp2
      go_ret2
      exact ⟨by rw [hp.out]; rfl, z1.below⟩
end Go.Proofs.YtpiajeonnhfanaaDoor
