/-
  What is read of ordered bytes: the program's ReadOrdered and the document's.
-/
import Derived.Test.YtkjnaflifepncaaLess
import Derived.Laws.BitsAllLaws
set_option linter.unusedVariables false
set_option linter.unusedSimpArgs false
namespace Go.Proofs.Ytkjnaflifepncaa
open Go.RowKit

/-- The answer of a reader. -/
def Answer (x k e : Nat) : Ending := .returned (.tuple #[.int .u64 x, .int .i64 k, .int .i64 e])
theorem answer_of {a b c : Int} {x k e : Nat} (h1 : a = x) (h2 : b = k) (h3 : c = e) : Ending.returned (.tuple #[.int .u64 a, .int .i64 b, .int .i64 c]) = Answer x k e := by rw [h1, h2, h3]; rfl

theorem add_succ_ (a : Addr) (k : Nat) : a.add (k + 1) = ⟨a.block, a.off + (k + 1), none⟩ := by unfold Addr.add; simp
theorem row_nil {w : World} {A : Option Addr} {n : Nat} (h : Row w A n (bys [])) : n = 0 := by have := h.len; simp [bys] at this; omega
theorem row_cons {w : World} {A : Option Addr} {n b : Nat} {r : List Nat} (h : Row w A n (bys (b :: r))) : n = r.length + 1 := by have := h.len; simp [bys] at this; omega
theorem val_take {r : List Nat} {k y : Nat} (h : r[k]? = some y) : D.val (r.take (k + 1)) = D.val (r.take k) * 256 + y := by
  rw [List.take_add_one, h]; exact D.val_snoc _ _
theorem val_bd {r : List Nat} (hl : ∀ b ∈ r, b < 256) {k : Nat} (hk : k ≤ 7) : D.val (r.take k) < 72057594037927936 := by
  have h1 := D.val_lt (l := r.take k) fun b hb => hl b (List.mem_of_mem_take hb)
  have h2 : 256 ^ (r.take k).length ≤ 256 ^ 7 := Nat.pow_le_pow_right (by decide) (by simp; omega)
  omega
theorem head_zero {r : List Nat} (h : 0 < r.length) (h0 : r.getD 0 0 = 0) : r[0]? = some 0 := by
  cases r with
  | nil => simp at h
  | cons a t => simpa using h0
theorem head_some {r : List Nat} (h : 0 < r.length) (h0 : r.getD 0 0 ≠ 0) : ∃ y, r[0]? = some y ∧ y ≠ 0 := by
  cases r with
  | nil => simp at h
  | cons a t => exact ⟨a, rfl, by simpa using h0⟩

set_option maxRecDepth 20000 in
set_option maxHeartbeats 1000000 in
theorem read_ordered (A : Option Addr) (n c : Nat) (l : List Nat) (x k e : Nat) (w : World) (ha : Row w A n (bys l)) (hl : Kept (∀ b ∈ l, b < 256)) (hnc : n ≤ c) (hc : c ≤ maxLen) (hr : Kept (D.readO l = (x, k, e))) :
    Calls Try.prog 17 #[.slice A n c] w fun e' w' => e' = Answer x k e ∧ ∃ q, w' = w.drewN q := by
  unfold maxLen at hc
  match l with
  | [] =>
    have hn := row_nil ha
    have hr' := hr.out
    simp only [D.readO, Prod.mk.injEq] at hr'
    obtain ⟨rfl, rfl, rfl⟩ := hr'
    subst hn
    clear ha hr hl
    go_enter Try.func17, Try.ntmps17
    go_wp2
    go_ret3
    exact ⟨rfl, 0, rfl⟩
  | b :: r =>
    have hn := row_cons ha
    obtain ⟨m, hm⟩ : ∃ m, r.length = m := ⟨_, rfl⟩
    rw [hm] at hn
    subst hn
    obtain ⟨ad, rfl, cb⟩ := ha.cell (k := 0) (bys_at (b := b) rfl)
    rw [add_zero_] at cb
    obtain ⟨A1, hcut, hrow⟩ := from_run_b (some ad) (m + 1) c 1 1 rfl (by omega)
    have hrow := hrow w _ ha hnc
    rw [bys_drop] at hrow
    have hrow : Row w A1 m (bys r) := hrow
    have hcut : ∀ W, (Instr.slice 25 (.slice (some ad) (m + 1) c) (some (.int .i64 1)) none none).run Try.prog W = .ok (.slice A1 m (c - 1)) W := hcut
    have hb := hl.out b (List.mem_cons_self ..)
    have hl2 : Kept (∀ b ∈ r, b < 256) := ⟨fun x hx => hl.out x (List.mem_cons_of_mem _ hx)⟩
    have hr' := hr.out
    have HM := Lib.hid hm
    clear hr hl ha hm
    by_cases h8 : 8 < b
    · simp only [D.readO, if_pos h8, Prod.mk.injEq] at hr'
      obtain ⟨rfl, rfl, rfl⟩ := hr'
      clear hrow
      go_enter Try.func17, Try.ntmps17
      go_wp2_with fail
      go_quiet (fail)
      go_wp2
      go_ret3
      exact ⟨rfl, _, rfl⟩
    · by_cases hmb : m < b
      · simp only [D.readO, if_neg h8, HM.out, if_pos hmb, Prod.mk.injEq] at hr'
        obtain ⟨rfl, rfl, rfl⟩ := hr'
        clear hrow
        go_enter Try.func17, Try.ntmps17
        go_wp2_with fail
        go_quiet (fail)
        go_wp2
        go_ret3
        exact ⟨rfl, _, rfl⟩
      · by_cases h0 : 0 < b ∧ r.getD 0 0 = 0
        · simp only [D.readO, if_neg h8, HM.out, if_neg hmb, if_pos h0, Prod.mk.injEq] at hr'
          obtain ⟨rfl, rfl, rfl⟩ := hr'
          obtain ⟨ad1, rfl, c0⟩ := hrow.cell (bys_at (head_zero (by rw [HM.out]; omega) h0.2))
          rw [add_zero_] at c0
          obtain ⟨h0, _⟩ := h0
          clear hrow
          go_enter Try.func17, Try.ntmps17
          go_wp2_with fail
          go_quiet (fail)
          go_wp2
          go_ret3
          exact ⟨rfl, _, rfl⟩
        · simp only [D.readO, if_neg h8, HM.out, if_neg hmb, if_neg h0, Prod.mk.injEq] at hr'
          obtain ⟨hv, rfl, rfl⟩ := hr'
          have HV := Lib.hid hv
          clear hv
          obtain ⟨A2, hcut2, hR2⟩ := upto_run_b A1 m (c - 1) b b rfl (by omega)
          have hrow2 := hR2 w _ hrow (by omega)
          clear hR2
          rw [bys_take] at hrow2
          by_cases hb0 : 0 < b
          · obtain ⟨y, hy, hy0⟩ := head_some (r := r) (by rw [HM.out]; omega) (fun e => h0 ⟨hb0, e⟩)
            obtain ⟨ad1, rfl, c0⟩ := hrow.cell (bys_at hy)
            rw [add_zero_] at c0
            have hne : ((y : Int) == 0) = false := by rw [beq_eq_false_iff_ne]; omega
            clear hrow h0 hy
            go_enter Try.func17, Try.ntmps17
            go_wp2_with fail
            go_quiet (fail)
            go_wp2_with fail
            go_loopw [7, 40] (fun t i wr => ∃ k q v : Nat, k ≤ b ∧ i = .int .i64 k ∧ t = .int .u64 v ∧ Kept (D.val (r.take k) = v) ∧ wr = w.drewN q) (fun _ i _ => b - (intOf i).toNat)
            case atStart => exact ⟨0, _, 0, Nat.zero_le _, rfl, rfl, ⟨rfl⟩, rfl⟩
            case round =>
              obtain ⟨k, q, v, hk, rfl, rfl, HK, rfl⟩ := hrel
              by_cases hlt : k < b
              · obtain ⟨z, hz, hzl⟩ := at_lt (l := r) (i := k) (by rw [HM.out]; omega)
                have hz256 := hl2.out z hzl
                have hv56 : v < 72057594037927936 := by rw [← HK.out]; exact val_bd hl2.out (by omega)
                have HN : Kept (D.val (r.take (k + 1)) = v * 256 + z) := ⟨by rw [val_take hz, HK.out]⟩
                have hz2 : (r.take b)[k]? = some z := by rw [List.getElem?_take, if_pos hlt]; exact hz
                obtain ⟨ad2, rfl, cz⟩ := hrow2.cell (bys_at hz2)
                have e1 : bits .or .u64 ((v : Int) * 256) (z : Int) = ((v * 256 + z : Nat) : Int) := by
                  rw [show (v : Int) * 256 = ((v * 256 : Nat) : Int) by omega, u64_or_nat _ _ (by omega) (by omega), nat_join 8 _ _ (by omega) (by omega)]
                clear HK hz hzl hz2
                go_wp2
                go_roundw
                case rel => exact ⟨k + 1, q, v * 256 + z, by omega, by go_num, rfl, HN, rfl⟩
                case measure => simp [intOf]; omega
              · have hvx : Kept (v = x) := ⟨by rw [← HK.out, ← HV.out, show k = b by omega]⟩
                clear HK
                go_wp2
                go_ret3
                exact ⟨answer_of (by rw [hvx.out]) (by omega) rfl, _, rfl⟩
          · obtain rfl : b = 0 := by omega
            have hvx : Kept (0 = x) := ⟨by rw [← HV.out]; rfl⟩
            clear hrow h0 hrow2
            go_enter Try.func17, Try.ntmps17
            go_wp2_with fail
            go_quiet (fail)
            go_wp2_with fail
            refine wp_loop_rounds 1 ?_
            rw [rounds_succ]
            go_wp2
            go_ret3
            exact ⟨answer_of (by rw [← hvx.out]; rfl) rfl rfl, _, rfl⟩

set_option maxRecDepth 20000 in
set_option maxHeartbeats 1000000 in
theorem ref_read_ordered (A : Option Addr) (n c : Nat) (l : List Nat) (x k e : Nat) (w : World) (ha : Row w A n (bys l)) (hl : Kept (∀ b ∈ l, b < 256)) (hnc : n ≤ c) (hc : c ≤ maxLen) (hr : Kept (D.readO l = (x, k, e))) :
    Calls Try.prog 18 #[.slice A n c] w fun e' w' => e' = Answer x k e ∧ w = w' := by
  unfold maxLen at hc
  match l with
  | [] =>
    have hn := row_nil ha
    have hr' := hr.out
    simp only [D.readO, Prod.mk.injEq] at hr'
    obtain ⟨rfl, rfl, rfl⟩ := hr'
    subst hn
    clear ha hr hl
    go_enter Try.func18, Try.ntmps18
    go_wp2
    go_ret3
    exact ⟨rfl, rfl⟩
  | b :: r =>
    have hn := row_cons ha
    obtain ⟨m, hm⟩ : ∃ m, r.length = m := ⟨_, rfl⟩
    rw [hm] at hn
    subst hn
    obtain ⟨ad, rfl, cb⟩ := ha.cell (k := 0) (bys_at (b := b) rfl)
    rw [add_zero_] at cb
    have hb := hl.out b (List.mem_cons_self ..)
    have hl2 : Kept (∀ b ∈ r, b < 256) := ⟨fun x hx => hl.out x (List.mem_cons_of_mem _ hx)⟩
    have hr' := hr.out
    have HM := Lib.hid hm
    clear hr hl hm
    by_cases h8 : 8 < b
    · simp only [D.readO, if_pos h8, Prod.mk.injEq] at hr'
      obtain ⟨rfl, rfl, rfl⟩ := hr'
      go_enter Try.func18, Try.ntmps18
      go_wp2
      go_ret3
      exact ⟨rfl, rfl⟩
    · by_cases hmb : m < b
      · simp only [D.readO, if_neg h8, HM.out, if_pos hmb, Prod.mk.injEq] at hr'
        obtain ⟨rfl, rfl, rfl⟩ := hr'
        go_enter Try.func18, Try.ntmps18
        go_wp2
        go_ret3
        exact ⟨rfl, rfl⟩
      · by_cases h0 : 0 < b ∧ r.getD 0 0 = 0
        · simp only [D.readO, if_neg h8, HM.out, if_neg hmb, if_pos h0, Prod.mk.injEq] at hr'
          obtain ⟨rfl, rfl, rfl⟩ := hr'
          have h00 := head_zero (by rw [HM.out]; omega) h0.2
          obtain ⟨ad1, e1, c0⟩ := ha.cell (k := 1) (u := .int .u8 ((0 : Nat) : Int)) (bys_at (l := b :: r) (by simpa using h00))
          injection e1 with e1
          subst e1
          rw [add_succ_ ad 0] at c0
          obtain ⟨h0, _⟩ := h0
          clear ha h00
          go_enter Try.func18, Try.ntmps18
          go_wp2
          go_ret3
          exact ⟨rfl, rfl⟩
        · simp only [D.readO, if_neg h8, HM.out, if_neg hmb, if_neg h0, Prod.mk.injEq] at hr'
          obtain ⟨hv, rfl, rfl⟩ := hr'
          have HV := Lib.hid hv
          clear hv
          by_cases hb0 : 0 < b
          · obtain ⟨y, hy, hy0⟩ := head_some (r := r) (by rw [HM.out]; omega) (fun e => h0 ⟨hb0, e⟩)
            obtain ⟨ad1, e1, c0⟩ := ha.cell (k := 1) (u := .int .u8 (y : Int)) (bys_at (l := b :: r) (by simpa using hy))
            injection e1 with e1
            subst e1
            rw [add_succ_ ad 0] at c0
            have hne : ((y : Int) == 0) = false := by rw [beq_eq_false_iff_ne]; omega
            clear h0 hy
            go_enter Try.func18, Try.ntmps18
            go_wp2_with fail
            go_loop [6, 7] (fun t i => ∃ k v : Nat, k ≤ b ∧ i = .int .i64 ((k : Int) + 1) ∧ t = .int .u64 v ∧ Kept (D.val (r.take k) = v)) (fun _ i => b + 1 - (intOf i).toNat)
            case atStart => exact ⟨0, 0, Nat.zero_le _, rfl, rfl, ⟨rfl⟩⟩
            case round =>
              obtain ⟨k, v, hk, rfl, rfl, HK⟩ := hrel
              by_cases hlt : k < b
              · obtain ⟨z, hz, hzl⟩ := at_lt (l := r) (i := k) (by rw [HM.out]; omega)
                have hz256 := hl2.out z hzl
                have hv56 : v < 72057594037927936 := by rw [← HK.out]; exact val_bd hl2.out (by omega)
                have HN : Kept (D.val (r.take (k + 1)) = v * 256 + z) := ⟨by rw [val_take hz, HK.out]⟩
                obtain ⟨ad2, e2, cz⟩ := ha.cell (k := k + 1) (u := .int .u8 (z : Int)) (bys_at (l := b :: r) (by simpa using hz))
                injection e2 with e2
                subst e2
                rw [add_succ_] at cz
                have e3 : ((k : Int) + 1).toNat = k + 1 := by omega
                clear HK hz hzl ha
                go_wp2
                go_round
                case rel => exact ⟨k + 1, v * 256 + z, by omega, by go_num, by go_num, HN⟩
                case measure => simp [intOf]; omega
              · have hvx : Kept (v = x) := ⟨by rw [← HK.out, ← HV.out, show k = b by omega]⟩
                clear HK ha
                go_wp2
                go_ret3
                exact ⟨answer_of (by rw [hvx.out]) (by omega) rfl, rfl⟩
          · obtain rfl : b = 0 := by omega
            have hvx : Kept (0 = x) := ⟨by rw [← HV.out]; rfl⟩
            clear h0 ha
            go_enter Try.func18, Try.ntmps18
            go_wp2_with fail
            refine wp_loop_rounds 1 ?_
            rw [rounds_succ]
            go_wp2
            go_ret3
            exact ⟨answer_of (by rw [← hvx.out]; rfl) rfl rfl, rfl⟩
end Go.Proofs.Ytkjnaflifepncaa
