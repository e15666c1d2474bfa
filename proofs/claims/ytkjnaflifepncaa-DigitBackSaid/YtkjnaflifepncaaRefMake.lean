/-
  The bytes of numbers, as the document's answer makes them: Ordered, Small, Row.
-/
import Derived.Test.YtkjnaflifepncaaLess
set_option linter.unusedVariables false
set_option linter.unusedSimpArgs false
namespace Go.Proofs.Ytkjnaflifepncaa
open Go.RowKit

theorem from_below {w w1 w2 : World} {o : Obj} {row : Option Nat} (h : Below w.heap.size w w1) (hg : (w1.alloc o).grownBy w2 row) (hr : ∀ k, row = some k → w.heap.size ≤ k) : Below w.heap.size w w2 :=
  (h.alloc h.size o).grown hg (by simp; have := h.size; omega) hr

set_option maxHeartbeats 400000 in
theorem ref_ordered (x : Nat) (w : World) (hx : x < 18446744073709551616) :
    Calls Try.prog 9 #[.int .u64 x] w (Made w (D.ordd x)) := by
  have hlen := D.od_len8 hx
  go_enter Try.func9, Try.ntmps9
  go_wp2
  go_loopw [0, 3] (fun t o wr => ∃ (m : Nat) (A : Option Addr) (j c : Nat) (l : List Nat), t = .int .u64 m ∧ o = .slice A j c ∧ m < 18446744073709551616 ∧ Own w.heap.size wr A j c l ∧ Kept (D.od m ++ l = D.od x) ∧ Below w.heap.size w wr) (fun t _ _ => (intOf t).toNat)
  case atStart => exact ⟨x, none, 0, 0, [], rfl, rfl, hx, Own.nil (Nat.le_refl _), ⟨by simp⟩, Below.refl _ _⟩
  case round =>
    obtain ⟨m, A, j, c, l, rfl, rfl, hm, HO, HK, hbel⟩ := hrel
    have hll := HO.len
    have hj : j ≤ 8 := by
      have := congrArg List.length HK.out
      rw [List.length_append] at this
      omega
    clear hll
    by_cases h0 : 0 < m
    · have HN : Kept (D.od (m / 256) ++ ([m % 256] ++ l) = D.od x) := ⟨by rw [← HK.out, D.od_pos (n := m) (by omega), List.append_assoc]⟩
      clear HK
      go_wp2_with (at_builtin; refine app _ rfl (.tmp 9) (.tmp 10) rfl rfl (Own.lit (b := m % 256) HO.base (by rfl)) rfl (HO.to_row.alloc _) (by omega) ?_; intro A1 c1 w1 ho1 hg1 hat1)
      go_roundw
      case rel => exact ⟨m / 256, A1, 1 + j, c1, _, by go_num, rfl, by omega, ho1, HN, from_below hbel hg1 (Own.lit (b := m % 256) HO.base rfl).block_le⟩
      case measure => simp [intOf]; omega
    · obtain rfl : m = 0 := by omega
      have HE : Kept ([j] ++ l = D.ordd x) := ⟨by
        have e := HK.out
        rw [D.od_zero, List.nil_append] at e
        rw [D.ordd, ← e, HO.len]; rfl⟩
      clear HK
      go_wp2_with (at_builtin; refine app _ rfl (.tmp 17) (.tmp 18) rfl rfl (Own.lit (b := j) HO.base (by rfl)) rfl (HO.to_row.alloc _) (by omega) ?_; intro A1 c1 w1 ho1 hg1 hat1)
      go_ret
      exact made_of ho1 HE.out (from_below hbel hg1 (Own.lit (b := j) HO.base rfl).block_le)

set_option maxHeartbeats 400000 in
theorem ref_small (x : Nat) (w : World) (hx : x < 18446744073709551616) :
    Calls Try.prog 11 #[.int .u64 x] w (Made w (D.sm x)) := by
  have hlen := D.sm_len10 hx
  go_enter Try.func11, Try.ntmps11
  go_wp2
  go_loopw [0, 3] (fun t o wr => ∃ (m : Nat) (A : Option Addr) (j c : Nat) (l : List Nat), t = .int .u64 m ∧ o = .slice A j c ∧ m < 18446744073709551616 ∧ Own w.heap.size wr A j c l ∧ Kept (l ++ D.sm m = D.sm x) ∧ Below w.heap.size w wr) (fun t _ _ => (intOf t).toNat)
  case atStart => exact ⟨x, none, 0, 0, [], rfl, rfl, hx, Own.nil (Nat.le_refl _), ⟨by simp⟩, Below.refl _ _⟩
  case round =>
    obtain ⟨m, A, j, c, l, rfl, rfl, hm, HO, HK, hbel⟩ := hrel
    have hll := HO.len
    have hj : j ≤ 10 := by
      have := congrArg List.length HK.out
      rw [List.length_append] at this
      omega
    clear hll
    by_cases h0 : 127 < m
    · have HN : Kept ((l ++ [m % 128 + 128]) ++ D.sm (m / 128) = D.sm x) := ⟨by rw [← HK.out, D.sm_more (n := m) (by omega)]; simp⟩
      clear HK
      go_wp2_with (at_builtin; refine app _ rfl (.tmp 6) (.tmp 11) rfl rfl (HO.alloc _) rfl (Own.lit (b := m % 128 + 128) HO.base (by rfl)).to_row (by omega) ?_; intro A1 c1 w1 ho1 hg1 hat1)
      go_roundw
      case rel => exact ⟨m / 128, A1, j + 1, c1, _, by go_num, rfl, by omega, ho1, HN, from_below hbel hg1 HO.block_le⟩
      case measure => simp [intOf]; omega
    · have HE : Kept (l ++ [m] = D.sm x) := ⟨by rw [← HK.out, D.sm_last (n := m) (by omega)]⟩
      clear HK
      go_wp2_with (at_builtin; refine app _ rfl (.tmp 15) (.tmp 18) rfl rfl (HO.alloc _) rfl (Own.lit (b := m) HO.base (by rfl)).to_row (by omega) ?_; intro A1 c1 w1 ho1 hg1 hat1)
      go_ret
      exact made_of ho1 HE.out (from_below hbel hg1 HO.block_le)

set_option maxHeartbeats 400000 in
theorem ref_rowO (A : Option Addr) (n c : Nat) (l : List Nat) (w : World) (ha : Row w A n (wds l)) (hl : Kept (∀ x ∈ l, x < 18446744073709551616)) (hn : n ≤ 30) :
    Calls Try.prog 15 #[.slice A n c, .bool true] w (Made w (D.rowO l)) := by
  go_enter Try.func15, Try.ntmps15
  go_wp2
  go_loopw [5, 6] (fun o i wr => ∃ (k : Nat) (B : Option Addr) (j d : Nat), k ≤ n ∧ i = .int .i64 k ∧ o = .slice B j d ∧ Own w.heap.size wr B j d (D.rowO (l.take k)) ∧ Below w.heap.size w wr) (fun _ i _ => n - (intOf i).toNat)
  case atStart => exact ⟨0, none, 0, 0, Nat.zero_le _, rfl, rfl, Own.nil (Nat.le_refl _), Below.refl _ _⟩
  case round =>
    obtain ⟨k, B, j, d, hk, rfl, rfl, HO, hbel⟩ := hrel
    have hll := ha.len
    rw [wds_len] at hll
    have hj : j ≤ 300 := by
      have h1 := HO.len
      have h2 := D.rowO_len (l := l.take k) (fun x hx => hl.out x (List.mem_of_mem_take hx))
      simp at h2
      omega
    by_cases hlt : k < n
    · obtain ⟨x, hx, hxl⟩ := at_lt (l := l) (i := k) (by omega)
      have hx64 := hl.out x hxl
      have HS : Kept (D.rowO (l.take k) ++ D.ordd x = D.rowO (l.take (k + 1))) := ⟨by rw [List.take_add_one, hx]; exact (D.rowO_snoc _ _).symm⟩
      have hlen : (D.ordd x).length ≤ 10 := Nat.le_trans (D.ordd_len hx64) (by omega)
      obtain ⟨ad, rfl, cx⟩ := (ha.on hbel).cell (wds_at hx)
      clear hl hll hx hxl
      go_wp2_with (first
        | (go_at_call 9; (with_reducible refine (ref_ordered x _ hx64).mono ?_); rintro e w1 ⟨B2, c2, rfl, ho2, hb2⟩)
        | (at_builtin; refine app _ rfl (.tmp 14) (.tmp 19) rfl rfl (HO.more hb2) rfl ho2.to_row (by omega) ?_; intro A1 c1 w2 ho1 hg1 hat1))
      go_roundw
      case rel => exact ⟨k + 1, A1, _, c1, by omega, by go_num, rfl, HS.out ▸ ho1, (hbel.trans (hb2.mono hbel.size)).grown hg1 (Nat.le_trans hbel.size hb2.size) HO.block_le⟩
      case measure => simp [intOf]; omega
    · have HE : Kept (D.rowO (l.take k) = D.rowO l) := ⟨by rw [List.take_of_length_le (by omega)]⟩
      clear hl hll
      go_wp2
      go_ret
      exact made_of HO HE.out hbel

set_option maxHeartbeats 400000 in
theorem ref_rowS (A : Option Addr) (n c : Nat) (l : List Nat) (w : World) (ha : Row w A n (wds l)) (hl : Kept (∀ x ∈ l, x < 18446744073709551616)) (hn : n ≤ 30) :
    Calls Try.prog 15 #[.slice A n c, .bool false] w (Made w (D.rowS l)) := by
  go_enter Try.func15, Try.ntmps15
  go_wp2
  go_loopw [5, 6] (fun o i wr => ∃ (k : Nat) (B : Option Addr) (j d : Nat), k ≤ n ∧ i = .int .i64 k ∧ o = .slice B j d ∧ Own w.heap.size wr B j d (D.rowS (l.take k)) ∧ Below w.heap.size w wr) (fun _ i _ => n - (intOf i).toNat)
  case atStart => exact ⟨0, none, 0, 0, Nat.zero_le _, rfl, rfl, Own.nil (Nat.le_refl _), Below.refl _ _⟩
  case round =>
    obtain ⟨k, B, j, d, hk, rfl, rfl, HO, hbel⟩ := hrel
    have hll := ha.len
    rw [wds_len] at hll
    have hj : j ≤ 300 := by
      have h1 := HO.len
      have h2 := D.rowS_len (l := l.take k) (fun x hx => hl.out x (List.mem_of_mem_take hx))
      simp at h2
      omega
    by_cases hlt : k < n
    · obtain ⟨x, hx, hxl⟩ := at_lt (l := l) (i := k) (by omega)
      have hx64 := hl.out x hxl
      have HS : Kept (D.rowS (l.take k) ++ D.sm x = D.rowS (l.take (k + 1))) := ⟨by rw [List.take_add_one, hx]; exact (D.rowS_snoc _ _).symm⟩
      have hlen : (D.sm x).length ≤ 10 := D.sm_len10 hx64
      obtain ⟨ad, rfl, cx⟩ := (ha.on hbel).cell (wds_at hx)
      clear hl hll hx hxl
      go_wp2_with (first
        | (go_at_call 11; (with_reducible refine (ref_small x _ hx64).mono ?_); rintro e w1 ⟨B2, c2, rfl, ho2, hb2⟩)
        | (at_builtin; refine app _ rfl (.tmp 21) (.tmp 26) rfl rfl (HO.more hb2) rfl ho2.to_row (by omega) ?_; intro A1 c1 w2 ho1 hg1 hat1))
      go_roundw
      case rel => exact ⟨k + 1, A1, _, c1, by omega, by go_num, rfl, HS.out ▸ ho1, (hbel.trans (hb2.mono hbel.size)).grown hg1 (Nat.le_trans hbel.size hb2.size) HO.block_le⟩
      case measure => simp [intOf]; omega
    · have HE : Kept (D.rowS (l.take k) = D.rowS l) := ⟨by rw [List.take_of_length_le (by omega)]⟩
      clear hl hll
      go_wp2
      go_ret
      exact made_of HO HE.out hbel
end Go.Proofs.Ytkjnaflifepncaa
